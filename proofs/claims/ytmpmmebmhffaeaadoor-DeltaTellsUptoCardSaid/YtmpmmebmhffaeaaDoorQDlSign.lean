/- Layer 14: Sign: what is told of a text's blocks. -/
import Derived.Test.YtmpmmebmhffaeaaDoorQDlFn
import Derived.Lib.AppendZeros
set_option linter.all false
set_option maxRecDepth 100000
set_option maxHeartbeats 25600000
namespace Go.Proofs.YtmpmmebmhffaeaaDoor
open Go.RowKit Go.Lib Go.BigFrame
namespace DM
open OM DL HP HS

theorem infoB : (Tryd.prog.info? 33).map (fun i => (i.zero, i.size, i.bytes)) = some (some (.agg #[.int .u32 0, .string ⟨#[]⟩, .int .i64 0]), 3, 32) := by kernel_rfl
theorem infoO : (Tryd.prog.info? 46).map (fun i => (i.zero, i.size, i.bytes)) = some (some (.agg #[.int .i64 0, .int .i64 0, .string ⟨#[]⟩]), 3, 32) := by kernel_rfl
theorem three_new (W : World) (x y z : Value) (T : TypeId) : ∀ (j : Nat) (u : Value), [x, y, z][j]? = some u → (W.alloc (.cells #[x, y, z] T)).cell? ((⟨W.heap.size, 0, none⟩ : Addr).add j) = some u := by
  intro j u hu
  have hh := heap_alloc_new W (.cells #[x, y, z] T)
  have hadd : (⟨W.heap.size, 0, none⟩ : Addr).add j = ⟨W.heap.size, j, none⟩ := by unfold Addr.add; split <;> simp_all
  rw [hadd, cell_of_row _ _ j _ _ _ hh, show (#[x, y, z] : Array Value) = [x, y, z].toArray from rfl, List.getElem?_toArray]
  exact hu
/-- A block more. -/
theorem blk_step {W : World} {vs : List Value} {base m : Nat} {u x y z : Value} (h : W.ownsRow base 33 3 u m vs) (hl : m ≤ 8388608) (hb : base ≤ W.heap.size) (hx : ∀ v ∈ [x, y, z], v.oneCell' = true) :
    ∃ a' c' W3, (Builtin.append_ #[22, 22] 22 #[u, .slice (some ⟨W.heap.size, 0, none⟩) 1 1]).run Tryd.prog (W.alloc (.cells #[x, y, z] 33)) = .ok (.slice a' (m + 1) c') W3 ∧ W3.ownsRow base 33 3 (.slice a' (m + 1) c') (m + 1) (vs ++ [x, y, z]) ∧ FP.Out (fun k => u.ownBlock = some k) W W3 := by
  obtain ⟨i0, hi, hz0, hz1, hz2⟩ := HR.info_parts (t := 33) infoB
  have o2 := World.ownsRow.alloc h (.cells #[x, y, z] 33)
  obtain ⟨v', W3, hr, ho, hg, _⟩ := run_append_own (P := Tryd.prog) (w := W.alloc (.cells #[x, y, z] 33)) base 22 22 33 i0 _ 3 32 Tryd.underlying22 hi hz0 hz1 hz2 rfl (by decide) u m _ o2 ⟨W.heap.size, 0, none⟩ 1 1
    [x, y, z] rfl (three_new W x y z _) hx (by unfold maxLen; omega) (by omega) (by rw [World.size_alloc]; omega)
  obtain ⟨a', c', hv', _⟩ := owns_view ho
  subst hv'
  exact ⟨a', c', W3, hr, ho, ((FP.Out.refl _ W).alloc _).grown hg (fun j hj _ => hj)⟩
/-- A step more. -/
theorem op_step {W : World} {vs : List Value} {base m : Nat} {u x y z : Value} (h : W.ownsRow base 46 3 u m vs) (hl : m ≤ 8388608) (hb : base ≤ W.heap.size) (hx : ∀ v ∈ [x, y, z], v.oneCell' = true) :
    ∃ a' c' W3, (Builtin.append_ #[34, 34] 34 #[u, .slice (some ⟨W.heap.size, 0, none⟩) 1 1]).run Tryd.prog (W.alloc (.cells #[x, y, z] 46)) = .ok (.slice a' (m + 1) c') W3 ∧ W3.ownsRow base 46 3 (.slice a' (m + 1) c') (m + 1) (vs ++ [x, y, z]) ∧ FP.Out (fun k => u.ownBlock = some k) W W3 := by
  obtain ⟨i0, hi, hz0, hz1, hz2⟩ := HR.info_parts (t := 46) infoO
  have o2 := World.ownsRow.alloc h (.cells #[x, y, z] 46)
  obtain ⟨v', W3, hr, ho, hg, _⟩ := run_append_own (P := Tryd.prog) (w := W.alloc (.cells #[x, y, z] 46)) base 34 34 46 i0 _ 3 32 Tryd.underlying34 hi hz0 hz1 hz2 rfl (by decide) u m _ o2 ⟨W.heap.size, 0, none⟩ 1 1
    [x, y, z] rfl (three_new W x y z _) hx (by unfold maxLen; omega) (by omega) (by rw [World.size_alloc]; omega)
  obtain ⟨a', c', hv', _⟩ := owns_view ho
  subst hv'
  exact ⟨a', c', W3, hr, ho, ((FP.Out.refl _ W).alloc _).grown hg (fun j hj _ => hj)⟩
theorem own_out {base B : Nat} {w wr W : World} {u : Value} {e size n : Nat} {xs : List Value} (ho : wr.ownsRow base e size u n xs) (hb : Below B w wr) (hB : B ≤ base) (hBw : B ≤ w.heap.size) (h : FP.Out (fun k => u.ownBlock = some k) wr W) : Below B w W :=
  hb.trans (h.below (B := B) (fun k hk _ hS => by have := (ho.lt k hS).1; omega) (Nat.le_trans hBw hb.size))
theorem blk_snoc (L : List Bk) (x : Nat) (y : List UInt8) (z : Int) {Y : ByteArray} (hY : ⟨y.toArray⟩ = Y) : blkC (L ++ [(x, y, z)]) = blkC L ++ [.int .u32 (x : Nat), .string Y, .int .i64 z] := by
  rw [← hY]
  exact c3_snoc L (x, y, z)
theorem op_snoc (L : List Stp) (x y : Int) (z : List UInt8) {Z : ByteArray} (hZ : ⟨z.toArray⟩ = Z) : opC (L ++ [(x, y, z)]) = opC L ++ [.int .i64 x, .int .i64 y, .string Z] := by
  rw [← hZ]
  exact c3_snoc L (x, y, z)
def SgInv (w : World) (L : List Bk) (s6 s14 : Value) (wr : World) : Prop :=
  ∃ (k : Nat) (a : Option Addr) (c : Nat), s14 = .int .i64 k ∧ s6 = .slice a k c ∧ k ≤ L.length ∧ wr.ownsRow w.heap.size 33 3 (.slice a k c) k (blkC (L.take k)) ∧ Below w.heap.size w wr
set_option maxRecDepth 100000 in
set_option maxHeartbeats 3200000 in
theorem sign_any (s : ByteArray) (sz : Nat) (w : World) (he : HQ.Env w) (h1 : 1 ≤ sz) (h2 : sz ≤ 65536) (hs : s.size ≤ 1048576) :
    Calls Tryd.prog 7 #[.string s, .int .i64 sz] w fun r w' => ∃ v, r = .returned (.tuple #[v, .int .i64 0]) ∧ w'.ownsRow w.heap.size 33 3 v (signL s.data.toList sz).length (blkC (signL s.data.toList sz)) ∧ Below w.heap.size w w' := by
  have HL := Lib.hid (sign_len s.data.toList sz)
  have hn : cnt s.size sz ≤ 1048576 := Nat.le_trans (cnt_le h1) hs
  have HA : Hid (∀ k, k < cnt s.size sz → (signL s.data.toList sz)[k]? = some (tellB (s.extract (k * sz) (min ((k + 1) * sz) s.size)).data.toList)) := Lib.hid (fun k hk => by
    rw [sign_at _ _ _ (by rw [← size_data]; exact hk)]
    congr 2
    rw [take_of3]
    unfold blockAt
    have e : (k + 1) * sz = k * sz + sz := by rw [Nat.add_mul, Nat.one_mul]
    have hl := size_data s
    rcases Nat.le_total ((k + 1) * sz) s.size with h | h
    · rw [Nat.min_eq_left h, e, Nat.add_sub_cancel_left]
    · rw [Nat.min_eq_right h, List.take_of_length_le (by rw [List.length_drop]; omega), List.take_of_length_le (by rw [List.length_drop]; omega)])
  have CB : Hid (∀ (k : Nat) (W : World), k < cnt s.size sz → Calls Tryd.prog 18 #[.string s, .int .i64 sz, .int .i64 k, .int .i64 1] W fun r w' => r = .returned (.string (s.extract (k * sz) (min ((k + 1) * sz) s.size))) ∧ W = w') := Lib.hid (fun k W hk => blocksOf_any s sz k 1 W h1 h2 hs (Nat.le_refl _) hk)
  have CT : Hid (∀ (k : Nat) (W : World), Below w.heap.size w W → Calls Tryd.prog 17 #[.string (s.extract (k * sz) (min ((k + 1) * sz) s.size))] W fun r w' => r = .returned (bkV (tellB (s.extract (k * sz) (min ((k + 1) * sz) s.size)).data.toList)) ∧ Below W.heap.size W w') := Lib.hid (fun k W hW => tell_any _ W (he.below hW) (by
    rw [Lib.size_eq, take_of3, List.length_take]
    omega))
  have CZ : Hid (∀ W, Calls Tryd.prog 15 #[.int .i64 sz] W fun r w' => r = .returned (.bool true) ∧ W = w') := Lib.hid (fun W => by
    have := isSize_any (sz : Int) W
    rw [decide_eq_true ⟨by omega, by omega⟩] at this
    exact this)
  have CC : Hid (∀ W, Calls Tryd.prog 16 #[.string s, .int .i64 sz] W fun r w' => r = .returned (.int .i64 (cnt s.size sz : Nat)) ∧ W = w') := Lib.hid (fun W => count_any s sz W h1 h2 hs)
  rw [← size_data] at HL
  obtain ⟨n, hnn⟩ : ∃ n, cnt s.size sz = n := ⟨_, rfl⟩
  rw [hnn] at HL HA CB CC hn
  obtain ⟨L, hL⟩ : ∃ L, signL s.data.toList sz = L := ⟨_, rfl⟩
  rw [hL] at HL HA ⊢
  clear hnn hL he h1 h2 hs
  go_enter Tryd.func7, Tryd.ntmps7
  repeat (first | go_skip | go_guarded | go_step | go_upon)
  refine (CZ.out _).mono ?_
  rintro r w1 ⟨rfl, rfl⟩
  simp only []
  repeat (first | go_skip | go_guarded | go_step | go_upon)
  refine (CC.out _).mono ?_
  rintro r w1 ⟨rfl, rfl⟩
  simp only []
  repeat (first | go_skip | go_guarded | go_step | go_upon)
  go_loopw [6, 14] (fun s6 s14 wr => SgInv w L s6 s14 wr) (fun _ s14 _ => n - (Go.RowKit.intOf s14).toNat)
  case atStart => exact ⟨0, none, 0, rfl, rfl, Nat.zero_le _, World.ownsRow_nil _ _ _ _, Below.refl _ _⟩
  case round =>
    obtain ⟨k, a, c, rfl, rfl, hk, hown, hb⟩ := hrel
    rw [HL.out] at hk
    have HO := Lib.hid hown
    have HB := Lib.hid hb
    clear hown hb
    by_cases hlt : k < n
    · have hkz : (k : Int) < n := by omega
      have hkn : (k : Int) ≤ 1048576 := by omega
      have CBk := Lib.hid (fun W => CB.out k W hlt)
      have CTk := Lib.hid (CT.out k)
      obtain ⟨S, hS⟩ : ∃ S, s.extract (k * sz) (min ((k + 1) * sz) s.size) = S := ⟨_, rfl⟩
      have HAk := Lib.hid (HA.out k hlt)
      rw [hS] at CBk CTk HAk
      obtain ⟨x, y, z, hxyz⟩ : ∃ x y z, tellB S.data.toList = (x, y, z) := ⟨_, _, _, rfl⟩
      rw [hxyz] at CTk HAk
      unfold bkV at CTk
      simp only at CTk
      obtain ⟨Y, hY⟩ : ∃ Y : ByteArray, ⟨y.toArray⟩ = Y := ⟨_, rfl⟩
      rw [hY] at CTk
      have HY := Lib.hid hY
      clear hS hxyz hY hlt
      repeat (first | go_skip | go_guarded | go_step | go_upon)
      refine (CBk.out _).mono ?_
      rintro r w2 ⟨rfl, rfl⟩
      simp only []
      repeat (first | go_skip | go_guarded | go_step | go_upon)
      refine (CTk.out _ HB.out).mono ?_
      rintro r w2 ⟨rfl, hb2⟩
      simp only []
      have HO2 := Lib.hid (owns_below HO.out hb2)
      have HB2 := Lib.hid (HB.out.trans (hb2.mono HB.out.size))
      obtain ⟨ap, cp, w3, hrun, hown, hout⟩ := blk_step (x := .int .u32 x) (y := .string Y) (z := .int .i64 z) HO2.out (by omega) HB2.out.size (fun v hv => by simp at hv; rcases hv with rfl | rfl | rfl <;> rfl)
      have HO3 := Lib.hid hown
      have HB3 := Lib.hid (own_out HO2.out HB2.out (Nat.le_refl _) (Nat.le_refl _) hout)
      clear hb2 hown hout
      repeat (first | (at_builtin; refine wpList_append_run _ rfl _ _ _ _ rfl _ _ rfl rfl _ _ hrun ?_) | go_skip | go_guarded | go_step | go_upon)
      exact ⟨⟨k + 1, ap, cp, by go_num, rfl, by rw [HL.out]; omega, by
        rw [List.take_add_one, HAk.out, Option.toList_some, blk_snoc _ _ _ _ HY.out]
        exact HO3.out, HB3.out⟩, by simp [Go.RowKit.intOf]; omega⟩
    · have hkz : ¬ (k : Int) < n := by omega
      obtain rfl : k = n := by omega
      clear hlt
      repeat (first | go_skip | go_guarded | go_step | go_upon)
      go_ret2
      refine ⟨_, rfl, ?_, HB.out⟩
      have := HO.out
      rw [List.take_of_length_le (by rw [HL.out]; exact Nat.le_refl _)] at this
      rw [HL.out]
      exact this
end DM
end Go.Proofs.YtmpmmebmhffaeaaDoor
