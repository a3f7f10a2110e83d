/- Layer 4: the statement on turned bytes: its walk. -/
import Derived.Test.YtphblgpimphgiaaDoorHashAwake
import Derived.BigRegion
import Derived.ChangeKeysEq
namespace Go.Proofs.YtphblgpimphgiaaDoor
open Go.RowKit Go.Lib
namespace HQ
open HP HS HR

theorem xor_u8 (a b : UInt8) : bits .xor .u8 ((a.toNat : Nat) : Int) ((b.toNat : Nat) : Int) = (((a ^^^ b).toNat : Nat) : Int) := by
  have h : ∀ c : UInt8, (BitVec.ofInt 8 ((c.toNat : Nat) : Int)).toNat = c.toNat := fun c => by
    rw [BitVec.ofInt_natCast, BitVec.toNat_ofNat]
    exact Nat.mod_eq_of_lt c.toNat_lt
  show IntKind.u8.wrap ((BitVec.ofInt 8 ((a.toNat : Nat) : Int) ^^^ BitVec.ofInt 8 ((b.toNat : Nat) : Int)).toNat : Int) = _
  rw [BitVec.toNat_xor, h, h, UInt8.toNat_xor]
  have hlt : a.toNat ^^^ b.toNat < 2 ^ 8 := Nat.xor_lt_two_pow a.toNat_lt b.toNat_lt
  simp [IntKind.wrap, IntKind.bits, IntKind.signed]
  omega
/-- The first k of the four bytes at a place are turned. -/
def turnL (l : List UInt8) (at' : Nat) (by' : List UInt8) : Nat → List UInt8
  | 0 => l
  | k + 1 => (turnL l at' by' k).set (at' + k) ((turnL l at' by' k).getD (at' + k) 0 ^^^ by'.getD k 0)
theorem turnL_len (l : List UInt8) (a : Nat) (b : List UInt8) : ∀ k, (turnL l a b k).length = l.length
  | 0 => rfl
  | k + 1 => by rw [turnL, List.length_set, turnL_len l a b k]
theorem turn_four (p q : List UInt8) (a b c d x y z u : UInt8) : turnL (p ++ [a, b, c, d] ++ q) p.length [x, y, z, u] 4 = p ++ [a ^^^ x, b ^^^ y, c ^^^ z, d ^^^ u] ++ q := by
  have hset : ∀ (v : UInt8) (m : List UInt8) (k : Nat), (p ++ m).set (p.length + k) v = p ++ m.set k v := fun v m k => by
    rw [List.set_append_right _ _ (by omega), Nat.add_sub_cancel_left]
  have hget : ∀ (m : List UInt8) (k : Nat), (p ++ m).getD (p.length + k) 0 = m.getD k 0 := fun m k => by
    rw [List.getD_eq_getElem?_getD, List.getD_eq_getElem?_getD, List.getElem?_append_right (by omega), Nat.add_sub_cancel_left]
  simp only [turnL, List.append_assoc, hset, hget]
  rfl
theorem xor_self_iff (a x : UInt8) : a ^^^ x = a ↔ x = 0 := by
  constructor
  · intro h
    have e : a ^^^ (a ^^^ x) = a ^^^ a := by rw [h]
    rw [← UInt8.xor_assoc, UInt8.xor_self, UInt8.zero_xor] at e
    exact e
  · intro h
    rw [h, UInt8.xor_zero]
theorem cut_four (l : List UInt8) (k : Nat) (h : k + 4 ≤ l.length) : ∃ a b c d, l = l.take k ++ [a, b, c, d] ++ l.drop (k + 4) := by
  refine ⟨l[k], l[k + 1], l[k + 2], l[k + 3], ?_⟩
  have e : l.drop k = l[k] :: l[k + 1] :: l[k + 2] :: l[k + 3] :: l.drop (k + 4) := by
    rw [List.drop_eq_getElem_cons (by omega), List.drop_eq_getElem_cons (by omega), List.drop_eq_getElem_cons (by omega), List.drop_eq_getElem_cons (by omega)]
  calc l = l.take k ++ l.drop k := (List.take_append_drop k l).symm
    _ = _ := by rw [e]; simp
/-- The check sums are the same just if nothing is turned. -/
theorem turned_iff (l : List UInt8) (k : Nat) (h : k + 4 ≤ l.length) (x y z u : UInt8) : crcL (turnL l k [x, y, z, u] 4) = crcL l ↔ x = 0 ∧ y = 0 ∧ z = 0 ∧ u = 0 := by
  obtain ⟨a, b, c, d, e⟩ := cut_four l k h
  have hk : (l.take k).length = k := by rw [List.length_take]; omega
  have ht : turnL l k [x, y, z, u] 4 = l.take k ++ [a ^^^ x, b ^^^ y, c ^^^ z, d ^^^ u] ++ l.drop (k + 4) := by
    have := turn_four (l.take k) (l.drop (k + 4)) a b c d x y z u
    rw [hk, ← e] at this
    exact this
  constructor
  · intro hc
    rw [ht] at hc
    rw [e] at hc
    have := crc_turned (p := (l.take k ++ [a, b, c, d] ++ l.drop (k + 4)).take k) (q := (l.take k ++ [a, b, c, d] ++ l.drop (k + 4)).drop (k + 4)) (a := a ^^^ x) (b := b ^^^ y) (c := c ^^^ z) (d := d ^^^ u) (e := a) (f := b) (g := c) (h := d) (by rw [← e] at hc ⊢; rw [← e]; exact hc)
    exact ⟨(xor_self_iff _ _).1 this.1, (xor_self_iff _ _).1 this.2.1, (xor_self_iff _ _).1 this.2.2.1, (xor_self_iff _ _).1 this.2.2.2⟩
  · rintro ⟨rfl, rfl, rfl, rfl⟩
    rw [ht, UInt8.xor_zero, UInt8.xor_zero, UInt8.xor_zero, UInt8.xor_zero, ← e]
/-- Out of a text: bytes that may be written. -/
theorem text_free (w : World) (s : ByteArray) : ∃ g cap w', (convert 9 32 (.string s)).run Tryd.prog w = .ok (.slice (some ⟨g, 0, none⟩) s.size cap) w' ∧ w.heap.size ≤ g ∧ g < w'.heap.size ∧ s.size ≤ cap ∧
    (∀ j b, s.data.toList[j]? = some b → w'.cell? ⟨g, j, none⟩ = some (.int .u8 (b.toNat : Nat))) ∧ (∀ j, j < cap → w'.frozen? ⟨g, j, none⟩ = false) ∧ Below w.heap.size w w' := by
  have hr := run_bytes_of_string (P := Tryd.prog) w 9 32 5 s Tryd.underlying9 Tryd.underlying32 Tryd.underlying5
  have hge := grownCap_ge w s.size 0 5
  generalize grownCap w s.size 0 5 = cap at hr hge
  have hsz : (bytesRow s cap).size = cap := by
    have : s.data.size = s.size := rfl
    simp [bytesRow]
    omega
  rw [hsz] at hr
  have hrow : (w.drew.alloc (.cells (bytesRow s cap) 5 (cap, cap + 1))).heap[w.heap.size]? = some (.cells (bytesRow s cap) 5 (cap, cap + 1)) := heap_alloc_new w.drew _
  refine ⟨w.heap.size, cap, _, hr, Nat.le_refl _, by simp, hge, fun j b hj => ?_, fun j hj => ?_, ((Below.refl _ _).drew).alloc (Nat.le_refl _) _⟩
  · rw [cell_of_row _ _ j _ _ _ hrow]
    have hjl : j < s.data.toList.length := (List.getElem?_eq_some_iff.1 hj).1
    unfold bytesRow
    rw [Array.getElem?_append_left (by simpa using hjl), Array.getElem?_map, ← Array.getElem?_toList, hj]
    rfl
  · unfold World.frozen?
    simp only [hrow]
    simp
    omega
/-- These bytes lie in block g, and may be written. -/
structure Mem8 (w : World) (g cap : Nat) (l : List UInt8) : Prop where
  cells : ∀ j b, l[j]? = some b → w.cell? ⟨g, j, none⟩ = some (.int .u8 (b.toNat : Nat))
  free : ∀ j, j < cap → w.frozen? ⟨g, j, none⟩ = false
theorem Mem8.set {w : World} {g cap : Nat} {l : List UInt8} (h : Mem8 w g cap l) (i : Nat) (hi : i < l.length) (b : UInt8) : Mem8 (w.setCell ⟨g, i, none⟩ (.int .u8 (b.toNat : Nat))).drew g cap (l.set i b) := by
  refine ⟨fun j c hj => ?_, fun j hj => ?_⟩
  · show (w.setCell ⟨g, i, none⟩ (.int .u8 (b.toNat : Nat))).cell? ⟨g, j, none⟩ = _
    by_cases hij : i = j
    · subst hij
      rw [List.getElem?_set_self hi] at hj
      cases hj
      obtain ⟨c, hc⟩ : ∃ c, l[i]? = some c := ⟨l[i], List.getElem?_eq_getElem hi⟩
      have h1 := h.cells i c hc
      exact World.cell?_setCell_same _ _ _ h1
    · rw [List.getElem?_set_ne hij] at hj
      rw [World.cell?_setCell_other]
      · exact h.cells j c hj
      · intro e
        cases e
        exact hij rfl
  · show (w.setCell ⟨g, i, none⟩ (.int .u8 (b.toNat : Nat))).frozen? ⟨g, j, none⟩ = _
    rw [World.frozen?_setCell]
    exact h.free j hj
theorem eq_arr (x y z u : UInt8) (W : World) : (Op.equalIn 10000 31 (.agg #[.int .u8 (x.toNat : Nat), .int .u8 (y.toNat : Nat), .int .u8 (z.toNat : Nat), .int .u8 (u.toNat : Nat)]) (.agg #[.int .u8 0, .int .u8 0, .int .u8 0, .int .u8 0])).run Tryd.prog W = .ok (decide (x = 0 ∧ y = 0 ∧ z = 0 ∧ u = 0)) W := by
  obtain ⟨i0, hi, hz0, hz1, hz2⟩ := info8
  rw [run_equalIn_array W 9999 (e := 5) (n := 4) _ _ Tryd.underlying31 hi, show Tryd.prog.cellsOf 5 = 1 by kernel_rfl]
  rw [show List.range 4 = [0, 1, 2, 3] from rfl]
  simp [Op.eqItems, go_sem, Tryd.underlying5]
  have hz : ∀ c : UInt8, (c.toNat = 0) = (c = 0) := fun c => propext ⟨fun h => UInt8.toNat_inj.1 h, fun h => by rw [h]; rfl⟩
  simp only [hz]
  by_cases hx : x = 0 <;> by_cases hy : y = 0 <;> by_cases hz' : z = 0 <;> by_cases hu : u = 0 <;> simp [hx, hy, hz', hu]
set_option maxRecDepth 100000 in
set_option maxHeartbeats 1600000 in
theorem turned_any (s : ByteArray) (n : Int) (x y z u : UInt8) (w : World) (he : Env w) (hs : s.size ≤ maxLen) (h0 : -9223372036854775808 ≤ n) (h1 : n ≤ 9223372036854775807) :
    Calls Tryd.prog 6 #[.string s, .int .i64 n, .agg #[.int .u8 (x.toNat : Nat), .int .u8 (y.toNat : Nat), .int .u8 (z.toNat : Nat), .int .u8 (u.toNat : Nat)]] w fun r w' => r = .returned (.bool true) ∧ Below w.heap.size w w' := by
  unfold maxLen at hs
  have hW : ∀ W, Env W → Calls Tryd.prog 8 #[] W fun r w' => r = .returned (.bool true) ∧ Below W.heap.size W w' := fun W h => awake_any W h
  obtain ⟨W1, hW1⟩ : ∃ W1, w.alloc (.cells #[.int .u8 (x.toNat : Nat), .int .u8 (y.toNat : Nat), .int .u8 (z.toNat : Nat), .int .u8 (u.toNat : Nat)] 31) = W1 := ⟨_, rfl⟩
  have hrow : W1.heap[w.heap.size]? = some (.cells #[.int .u8 (x.toNat : Nat), .int .u8 (y.toNat : Nat), .int .u8 (z.toNat : Nat), .int .u8 (u.toNat : Nat)] 31 (0, 0)) := by rw [← hW1]; exact heap_alloc_new w _
  have hb1 : Below w.heap.size w W1 := by rw [← hW1]; exact (Below.refl _ _).alloc (Nat.le_refl _) _
  have hs1 : W1.heap.size = w.heap.size + 1 := by rw [← hW1]; simp
  have cA := hW W1 (he.below hb1)
  have HE := Lib.hid he
  clear hW he
  by_cases hno : n < 0 ∨ (s.size : Int) - 4 < n
  · go_enter Tryd.func6, Tryd.ntmps6
    go_wp2_with fail
    refine cA.mono ?_
    rintro r w2 ⟨rfl, hb⟩
    have HB := Lib.hid (Below.trans hb1 (hb.mono (by omega)))
    clear hW1 hrow hb1 hs1 hb cA
    by_cases hn0 : n < 0
    · go_wp2_with fail
      go_ret
      exact ⟨rfl, HB.out⟩
    · have hn1 : (s.size : Int) - 4 < n := by omega
      have hn2 : (s.size : Int) < n + 4 := by omega
      go_wp2_with fail
      go_ret
      exact ⟨rfl, HB.out⟩
  · obtain ⟨m, rfl⟩ : ∃ m : Nat, n = m := ⟨n.toNat, by omega⟩
    have hm4 : m + 4 ≤ s.size := by omega
    have hn0 : ¬ (m : Int) < 0 := by omega
    have hn1 : ¬ (s.size : Int) - 4 < m := by omega
    clear hno h0 h1
    go_enter Tryd.func6, Tryd.ntmps6
    go_wp2_with fail
    refine cA.mono ?_
    rintro r w2 ⟨rfl, hb⟩
    obtain ⟨g, cap, w3, hconv, hg, hgl, hcap, hc, hf, hb3⟩ := text_free w2 s
    have hs2 : w.heap.size < w2.heap.size := by have := hb.size; omega
    have hk2 : w2.heap[w.heap.size]? = some (.cells #[.int .u8 (x.toNat : Nat), .int .u8 (y.toNat : Nat), .int .u8 (z.toNat : Nat), .int .u8 (u.toNat : Nat)] 31 (0, 0)) := (hb.block _ (by omega)).trans hrow
    have hk3 : w3.heap[w.heap.size]? = some (.cells #[.int .u8 (x.toNat : Nat), .int .u8 (y.toNat : Nat), .int .u8 (z.toNat : Nat), .int .u8 (u.toNat : Nat)] 31 (0, 0)) := (hb3.block _ (by omega)).trans hk2
    have hM : Mem8 w3 g cap (turnL s.data.toList m [x, y, z, u] 0) := ⟨hc, hf⟩
    have hbw : Below w.heap.size w w3 := Below.trans hb1 (Below.trans (hb.mono (by omega)) (hb3.mono (by omega)))
    have hwg : w.heap.size < g := by omega
    have HK3 := Lib.hid hk3
    have HM3 := Lib.hid hM
    have HB3 := Lib.hid hbw
    have HCap := Lib.hid hcap
    clear hW1 hrow hb1 hs1 hb cA hc hf hb3 hs2 hk2 hk3 hM hbw hgl hg hcap
    have HNl : Hid (s.data.toList.length = s.size) := Lib.hid (Lib.size_eq s).symm
    have hn2 : (m : Int) + 4 ≤ s.size := by omega
    have hn3 : ¬ (s.size : Int) < (m : Int) + 4 := by omega
    have hn4 : (m : Int) ≤ (s.size : Int) - 4 := by omega
    go_wp2_with fail
    go_loopw [8, 22] (fun _ s22 wr => ∃ k : Nat, k ≤ 4 ∧ s22 = .int .i64 k ∧ Mem8 wr g cap (turnL s.data.toList m [x, y, z, u] k) ∧ wr.heap[w.heap.size]? = some (.cells #[.int .u8 (x.toNat : Nat), .int .u8 (y.toNat : Nat), .int .u8 (z.toNat : Nat), .int .u8 (u.toNat : Nat)] 31 (0, 0)) ∧ Below w.heap.size w wr) (fun _ s22 _ => 4 - (Go.RowKit.intOf s22).toNat)
    case atStart => exact ⟨0, by omega, rfl, HM3.out, HK3.out, HB3.out⟩
    case round =>
      clear HM3 HK3 HB3
      obtain ⟨k, hk, rfl, hM, hK, hB⟩ := hrel
      have HM := Lib.hid hM
      have HK := Lib.hid hK
      have HB := Lib.hid hB
      clear hM hK hB
      by_cases hlt : k < 4
      · have hz : (k : Int) < 4 := by omega
        obtain ⟨c, hc⟩ : ∃ c, (turnL s.data.toList m [x, y, z, u] k)[m + k]? = some c := ⟨(turnL s.data.toList m [x, y, z, u] k)[m + k]'(by rw [turnL_len, HNl.out]; omega), List.getElem?_eq_getElem _⟩
        obtain ⟨t, ht⟩ : ∃ t, [x, y, z, u][k]? = some t := ⟨[x, y, z, u][k]'(by simpa using hlt), List.getElem?_eq_getElem _⟩
        have cg := HM.out.cells _ c hc
        have fg := HM.out.free (m + k) (by have := HCap.out; omega)
        have cb : wr.cell? ⟨w.heap.size, k, none⟩ = some (.int .u8 (t.toNat : Nat)) := by
          rw [cell_of_row wr w.heap.size k _ _ _ HK.out]
          match k, hlt, ht with
          | 0, _, ht => cases ht; rfl
          | 1, _, ht => cases ht; rfl
          | 2, _, ht => cases ht; rfl
          | 3, _, ht => cases ht; rfl
        have x1 := xor_u8 c t
        have HS : Hid (turnL s.data.toList m [x, y, z, u] (k + 1) = (turnL s.data.toList m [x, y, z, u] k).set (m + k) (c ^^^ t)) := Lib.hid (by
          rw [turnL, List.getD_eq_getElem?_getD, List.getD_eq_getElem?_getD, hc, ht]
          rfl)
        have hmk : (m : Int) + k < s.size := by omega
        have hmk0 : (0 : Int) ≤ (m : Int) + k := by omega
        clear hc ht
        go_wp2_with fail
        go_region
        all_goals (try go_wp2_with fail)
        all_goals
          go_roundw
          case rel =>
            have h := HM.out.set (m + k) (by rw [turnL_len, HNl.out]; omega) (c ^^^ t)
            rw [← HS.out, UInt8.toNat_xor] at h
            exact ⟨k + 1, by omega, by go_num, h, (heap_setCell_other wr ⟨g, m + k, none⟩ w.heap.size _ (by show w.heap.size ≠ g; omega)).trans HK.out, (HB.out.setCell (by show w.heap.size ≤ g; omega) _).drew⟩
          case measure => simp [Go.RowKit.intOf]; omega
      · have hz : ¬ (k : Int) < 4 := by omega
        have e4 : k = 4 := by omega
        subst e4
        obtain ⟨T, hT⟩ : ∃ T : ByteArray, T = ⟨(turnL s.data.toList m [x, y, z, u] 4).toArray⟩ := ⟨_, rfl⟩
        have hTl : T.data.toList = turnL s.data.toList m [x, y, z, u] 4 := by rw [hT]
        have hTs : T.size = s.size := by rw [Lib.size_eq, hTl, turnL_len, HNl.out]
        have kc : ∀ n, (convert 32 9 (.slice (some ⟨g, 0, none⟩) s.size cap)).run Tryd.prog (wr.drewN n) = .ok (.string T) (wr.drewN n) := fun n => by
          have h := run_convert_bytes_back (P := Tryd.prog) (wr.drewN n) 32 9 5 ⟨g, 0, none⟩ cap (turnL s.data.toList m [x, y, z, u] 4) Tryd.underlying32 Tryd.underlying5 Tryd.underlying9 (fun j hj => by
            have hadd : (⟨g, 0, none⟩ : Addr).add j = ⟨g, j, none⟩ := by unfold Addr.add; split <;> simp_all
            rw [hadd]
            exact HM.out.cells j _ (List.getElem?_eq_getElem hj))
          rw [turnL_len, HNl.out] at h
          rw [hT]
          exact h
        have b0 : wr.cell? ⟨w.heap.size, 0, none⟩ = some (.int .u8 (x.toNat : Nat)) := by rw [cell_of_row wr w.heap.size 0 _ _ _ HK.out]; rfl
        have b1 : wr.cell? ⟨w.heap.size, 1, none⟩ = some (.int .u8 (y.toNat : Nat)) := by rw [cell_of_row wr w.heap.size 1 _ _ _ HK.out]; rfl
        have b2 : wr.cell? ⟨w.heap.size, 2, none⟩ = some (.int .u8 (z.toNat : Nat)) := by rw [cell_of_row wr w.heap.size 2 _ _ _ HK.out]; rfl
        have b3 : wr.cell? ⟨w.heap.size, 3, none⟩ = some (.int .u8 (u.toNat : Nat)) := by rw [cell_of_row wr w.heap.size 3 _ _ _ HK.out]; rfl
        have HEn : Hid (∀ n, Env (wr.drewN n)) := Lib.hid (fun n => (HE.out.below HB.out).below ⟨rfl, rfl, rfl, Nat.le_refl _, fun _ _ => rfl⟩)
        obtain ⟨c1, hc1⟩ : ∃ c1, crcL (turnL s.data.toList m [x, y, z, u] 4) = c1 := ⟨_, rfl⟩
        obtain ⟨c2, hc2⟩ : ∃ c2, crcL s.data.toList = c2 := ⟨_, rfl⟩
        have C1 : Hid (∀ W, Env W → Calls Tryd.prog 13 #[.string T] W fun r w' => r = .returned (.int .u32 (c1 : Nat)) ∧ W = w') := Lib.hid (fun W hW => by
          have h := crc_any T W hW (by rw [hTs]; exact hs)
          rw [hTl, hc1] at h
          exact h)
        have C2 : Hid (∀ W, Env W → Calls Tryd.prog 13 #[.string s] W fun r w' => r = .returned (.int .u32 (c2 : Nat)) ∧ W = w') := Lib.hid (fun W hW => by
          have h := crc_any s W hW hs
          rw [hc2] at h
          exact h)
        have HI : Hid (c1 = c2 ↔ x = 0 ∧ y = 0 ∧ z = 0 ∧ u = 0) := Lib.hid (by
          rw [← hc1, ← hc2]
          exact turned_iff s.data.toList m (by rw [HNl.out]; exact hm4) x y z u)
        obtain ⟨E, hE⟩ : ∃ E, decide (x = 0 ∧ y = 0 ∧ z = 0 ∧ u = 0) = E := ⟨_, rfl⟩
        have heq : ∀ a, (Op.equalIn 10000 31 (.agg #[.int .u8 (x.toNat : Nat), .int .u8 (y.toNat : Nat), .int .u8 (z.toNat : Nat), .int .u8 (u.toNat : Nat)]) (.agg #[.int .u8 0, .int .u8 0, .int .u8 0, .int .u8 0])).run Tryd.prog (wr.drewN a) = .ok E (wr.drewN a) := fun a => by
          rw [← hE]
          exact eq_arr x y z u _
        have hfin : Hid ((((c1 : Int) == (c2 : Int)) == E) = true) := Lib.hid (by
          have e : ((c1 : Int) == (c2 : Int)) = E := by
            rw [← hE, Bool.eq_iff_iff, beq_iff_eq, decide_eq_true_eq, ← HI.out]
            omega
          rw [e]
          simp)
        clear hT hTl hTs hc1 hc2 hE
        go_wp2_with fail
        go_quiet (first | (go_at_call_of 13 (Value.string T); exact Calls.quiet_of_same ((C1.out _ (HEn.out _)).mono fun r w' h => ⟨h.1, h.2.symm⟩)) | (go_at_call_of 13 (Value.string s); exact Calls.quiet_of_same ((C2.out _ (HEn.out _)).mono fun r w' h => ⟨h.1, h.2.symm⟩)))
        rename_i nq
        have HB4 : Hid (Below w.heap.size w (wr.drewN nq)) := Lib.hid ⟨HB.out.os, HB.out.tape, HB.out.output, HB.out.size, HB.out.block⟩
        generalize wr.drewN nq = w4 at HB4 ⊢
        go_wp2_with fail
        go_ret
        exact ⟨congrArg (fun t => Ending.returned (Value.bool t)) hfin.out, HB4.out⟩
end HQ
end Go.Proofs.YtphblgpimphgiaaDoor
