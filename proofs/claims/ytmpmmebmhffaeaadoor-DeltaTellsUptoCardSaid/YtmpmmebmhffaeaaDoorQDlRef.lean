/- Layer 14: the document's Same of steps; its blocks. -/
import Derived.Test.YtmpmmebmhffaeaaDoorQDlAw
import Derived.Test.YtmpmmebmhffaeaaDoorQDlSums
import Derived.Laws.StructEq
set_option linter.all false
set_option maxRecDepth 100000
set_option maxHeartbeats 25600000
namespace Go.Proofs.YtmpmmebmhffaeaaDoor
open Go.RowKit Go.Lib Go.BigFrame Go.Maps
namespace DM
open OM DL HP HS

theorem str_eqL (a b : List UInt8) : ((⟨a.toArray⟩ : ByteArray).toList == (⟨b.toArray⟩ : ByteArray).toList) = decide (a = b) := by
  rw [str_eqB]
  exact decide_eq_decide.2 ⟨(fun h => by injection h with h; simpa using h), (fun h => by rw [h])⟩
theorem eq_opW (W : World) (x y : Stp) : (Op.equalIn 10000 46 (opV x) (opV y)).run Tryd.prog W = .ok (decide (x = y)) W := by
  unfold opV
  rw [run_equalIn_struct W 9999 46 _ _ (by kernel_rfl) (by kernel_rfl)]
  have names : (Tryd.prog.fieldsOf 46).toList.map (fun f => (f.name, f.type, f.offset)) = [("From", 3, 0), ("Count", 3, 1), ("Text", 9, 2)] := by kernel_rfl
  obtain ⟨f0, f1, f2, e⟩ : ∃ f0 f1 f2, (Tryd.prog.fieldsOf 46).toList = [f0, f1, f2] := by
    have hl := congrArg List.length names
    rw [List.length_map] at hl
    match h : (Tryd.prog.fieldsOf 46).toList, hl with
    | [f0, f1, f2], _ => exact ⟨f0, f1, f2, rfl⟩
  rw [e] at names
  simp only [List.map_cons, List.map_nil, List.cons.injEq, Prod.mk.injEq, and_true] at names
  obtain ⟨⟨n0, t0, o0⟩, ⟨n1, t1, o1⟩, n2, t2, o2⟩ := names
  rw [e]
  obtain ⟨p, q, r⟩ := x
  obtain ⟨p', q', r'⟩ := y
  have s1 := str_eqL r r'
  simp only at s1 ⊢
  simp [Op.eqFields, go_sem, n0, n1, n2, t0, t1, t2, o0, o1, o2, Tryd.underlying9, Tryd.underlying3]
  by_cases h1 : p = p' <;> by_cases h2 : q = q' <;> by_cases h3 : r = r' <;> simp [h1, h2, h3]
theorem eq_op (x y : Stp) (W : World) : (Op.equalIn 10000 46 (opV x) (opV y)).run Tryd.prog W = .ok (decide (x = y)) W := eq_opW W x y
theorem eq_bkW (W : World) (x y : Bk) : (Op.equalIn 10000 33 (bkV x) (bkV y)).run Tryd.prog W = .ok (decide (x = y)) W := by
  unfold bkV
  rw [run_equalIn_struct W 9999 33 _ _ (by kernel_rfl) (by kernel_rfl)]
  have names : (Tryd.prog.fieldsOf 33).toList.map (fun f => (f.name, f.type, f.offset)) = [("Weak", 31, 0), ("Sum", 9, 1), ("Len", 3, 2)] := by kernel_rfl
  obtain ⟨f0, f1, f2, e⟩ : ∃ f0 f1 f2, (Tryd.prog.fieldsOf 33).toList = [f0, f1, f2] := by
    have hl := congrArg List.length names
    rw [List.length_map] at hl
    match h : (Tryd.prog.fieldsOf 33).toList, hl with
    | [f0, f1, f2], _ => exact ⟨f0, f1, f2, rfl⟩
  rw [e] at names
  simp only [List.map_cons, List.map_nil, List.cons.injEq, Prod.mk.injEq, and_true] at names
  obtain ⟨⟨n0, t0, o0⟩, ⟨n1, t1, o1⟩, n2, t2, o2⟩ := names
  rw [e]
  obtain ⟨p, q, r⟩ := x
  obtain ⟨p', q', r'⟩ := y
  have s1 := str_eqL q q'
  simp only at s1 ⊢
  simp [Op.eqFields, go_sem, n0, n1, n2, t0, t1, t2, o0, o1, o2, Tryd.underlying9, Tryd.underlying3, Tryd.underlying31]
  by_cases h1 : p = p' <;> by_cases h2 : q = q' <;> by_cases h3 : r = r' <;> simp [h1, h2, h3] <;> omega
theorem eq_bk (x y : Bk) (W : World) : (Op.equalIn 10000 33 (bkV x) (bkV y)).run Tryd.prog W = .ok (decide (x = y)) W := eq_bkW W x y
set_option maxRecDepth 100000 in
set_option maxHeartbeats 1600000 in
theorem rsame14_any (ao bo : Option Addr) (ca cb : Nat) (xs ys : List Stp) (w : World) (ha : LayO w ao xs) (hb : LayO w bo ys) (la : xs.length ≤ maxLen) (lb : ys.length ≤ maxLen) :
    Calls Tryd.prog 11 #[.slice ao xs.length ca, .slice bo ys.length cb] w fun r w' => r = .returned (.bool (decide (xs = ys))) ∧ Below w.heap.size w w' := by
  obtain ⟨n, hn⟩ : ∃ n, xs.length = n := ⟨_, rfl⟩
  obtain ⟨m, hm⟩ : ∃ m, ys.length = m := ⟨_, rfl⟩
  have HN := Lib.hid hn
  have HM := Lib.hid hm
  have HA := Lib.hid ha
  have HB := Lib.hid hb
  unfold maxLen at la lb
  rw [hn] at la ⊢
  rw [hm] at lb ⊢
  have hnz : (n : Int) ≤ 9223372036854775807 := by omega
  clear ha hb
  by_cases hnm : n = m
  · subst hnm
    clear hn hm la lb
    go_enter Tryd.func11, Tryd.ntmps11
    repeat (first | go_skip | go_guarded | go_step | go_upon)
    go_loopw [5] (fun s3 wr => ∃ k : Nat, s3 = .int .i64 k ∧ k ≤ n ∧ xs.take k = ys.take k ∧ Below w.heap.size w wr) (fun s3 _ => n - (Go.RowKit.intOf s3).toNat)
    case atStart => exact ⟨0, rfl, Nat.zero_le _, rfl, Below.refl _ _⟩
    case round =>
      obtain ⟨k, rfl, hk, ht, hbl⟩ := hrel
      have HT := Lib.hid ht
      have HW := Lib.hid hbl
      have HAr := Lib.hid (HA.out.below hbl)
      have HBr := Lib.hid (HB.out.below hbl)
      clear ht hbl
      by_cases hlt : k < n
      · have hkz : (k : Int) < n := by omega
        obtain ⟨g1, o1, rfl, _, hc1⟩ := HAr.out (by rw [HN.out]; omega)
        obtain ⟨g2, o2, rfl, _, hc2⟩ := HBr.out (by rw [HM.out]; omega)
        obtain ⟨x, hx⟩ : ∃ x, xs[k]? = some x := ⟨xs[k]'(by rw [HN.out]; exact hlt), List.getElem?_eq_getElem _⟩
        obtain ⟨y, hy⟩ : ∃ y, ys[k]? = some y := ⟨ys[k]'(by rw [HM.out]; exact hlt), List.getElem?_eq_getElem _⟩
        obtain ⟨x0, x1, x2⟩ := hc1 k x hx
        obtain ⟨y0, y1, y2⟩ := hc2 k y hy
        have he := fun W => eq_op x y W
        unfold opV at he
        simp only [oF, oC, oT, txt] at x0 x1 x2 y0 y1 y2
        obtain ⟨X, hX⟩ : ∃ X : ByteArray, ⟨x.2.2.toArray⟩ = X := ⟨_, rfl⟩
        obtain ⟨Y, hY⟩ : ∃ Y : ByteArray, ⟨y.2.2.toArray⟩ = Y := ⟨_, rfl⟩
        rw [hX, hY] at he
        rw [hX] at x2
        rw [hY] at y2
        by_cases hxy : x = y
        · have HT2 : Hid (xs.take (k + 1) = ys.take (k + 1)) := Lib.hid (by rw [List.take_add_one, List.take_add_one, HT.out, hx, hy, hxy])
          rw [decide_eq_true hxy] at he
          clear hc1 hc2 hx hy hxy hX hY
          repeat (first | go_skip | go_guarded | go_step | go_upon)
          go_quiet (fail)
          rename_i nq
          have HW3 : Hid (Below w.heap.size w (wr.drewN nq)) := Lib.hid ⟨HW.out.os, HW.out.tape, HW.out.output, HW.out.size, HW.out.block⟩
          clear x0 x1 x2 y0 y1 y2 he
          generalize wr.drewN nq = w3 at HW3 ⊢
          repeat (first | go_skip | go_guarded | go_step | go_upon)
          exact ⟨⟨k + 1, by go_num, by omega, HT2.out, HW3.out⟩, by simp [Go.RowKit.intOf]; omega⟩
        · have HF : Hid (decide (xs = ys) = false) := Lib.hid (by
            rw [decide_eq_false]
            intro e
            rw [e, hy] at hx
            exact hxy (Option.some.inj hx).symm)
          rw [decide_eq_false hxy] at he
          clear hc1 hc2 hx hy hxy hX hY
          repeat (first | go_skip | go_guarded | go_step | go_upon)
          go_quiet (fail)
          rename_i nq
          have HW3 : Hid (Below w.heap.size w (wr.drewN nq)) := Lib.hid ⟨HW.out.os, HW.out.tape, HW.out.output, HW.out.size, HW.out.block⟩
          clear x0 x1 x2 y0 y1 y2 he
          generalize wr.drewN nq = w3 at HW3 ⊢
          repeat (first | go_skip | go_guarded | go_step | go_upon)
          go_ret
          exact ⟨by rw [HF.out]; rfl, HW3.out⟩
      · have hkz : ¬ (k : Int) < n := by omega
        have HF : Hid (decide (xs = ys) = true) := Lib.hid (by
          rw [decide_eq_true]
          have := HT.out
          rw [List.take_of_length_le (by rw [HN.out]; omega), List.take_of_length_le (by rw [HM.out]; omega)] at this
          exact this)
        clear hlt
        repeat (first | go_skip | go_guarded | go_step | go_upon)
        go_ret
        exact ⟨by rw [HF.out]; rfl, HW.out⟩
  · have HF : Hid (decide (xs = ys) = false) := Lib.hid (decide_eq_false fun e => hnm (by rw [← hn, ← hm, e]))
    have hb : ((n : Int) == (m : Int)) = false := by simp; omega
    clear hn hm la lb hnm
    go_enter Tryd.func11, Tryd.ntmps11
    repeat (first | go_skip | go_guarded | go_step | go_upon)
    go_ret
    exact ⟨by rw [HF.out]; rfl, Below.refl _ _⟩
/-- A text's blocks. -/
def blocksB (s : ByteArray) (sz : Nat) : List ByteArray := (List.range (cnt s.size sz)).map fun i => s.extract (i * sz) (min ((i + 1) * sz) s.size)
theorem blocksB_len (s : ByteArray) (sz : Nat) : (blocksB s sz).length = cnt s.size sz := by unfold blocksB; rw [List.length_map, List.length_range]
theorem blocksB_at (s : ByteArray) (sz i : Nat) (h : i < cnt s.size sz) : (blocksB s sz)[i]? = some (s.extract (i * sz) (min ((i + 1) * sz) s.size)) := by
  unfold blocksB
  rw [List.getElem?_map, List.getElem?_range h]
  rfl
def strC (ls : List ByteArray) : List Value := ls.map Value.string
def BlInv (s : ByteArray) (sz : Nat) (w : World) (s5 s6 : Value) (wr : World) : Prop :=
  ∃ (k : Nat) (a : Option Addr) (c : Nat), s6 = .int .i64 (k * sz : Nat) ∧ s5 = .slice a k c ∧ k ≤ cnt s.size sz ∧ wr.ownsRow w.heap.size 9 1 (.slice a k c) k (strC ((blocksB s sz).take k)) ∧ Below w.heap.size w wr
set_option maxRecDepth 100000 in
set_option maxHeartbeats 3200000 in
theorem rblocks_any (s : ByteArray) (sz : Nat) (w : World) (h1 : 1 ≤ sz) (h2 : sz ≤ 65536) (hs : s.size ≤ 1048576) :
    Calls Tryd.prog 19 #[.string s, .int .i64 sz] w fun r w' => ∃ v, r = .returned v ∧ w'.ownsRow w.heap.size 9 1 v (cnt s.size sz) (strC (blocksB s sz)) ∧ Below w.heap.size w w' := by
  have hn : cnt s.size sz ≤ 1048576 := Nat.le_trans (cnt_le h1) hs
  have HA := Lib.hid (blocksB_at s sz)
  have HL := Lib.hid (blocksB_len s sz)
  have HC : Hid (∀ k, k < cnt s.size sz ↔ k * sz < s.size) := Lib.hid (fun k => cnt_lt h1)
  go_enter Tryd.func19, Tryd.ntmps19
  repeat (first | go_skip | go_guarded | go_step | go_upon)
  go_loopw [5, 6] (fun s5 s6 wr => BlInv s sz w s5 s6 wr) (fun _ s6 _ => s.size - (Go.RowKit.intOf s6).toNat)
  case atStart => exact ⟨0, none, 0, by simp, rfl, Nat.zero_le _, World.ownsRow_nil _ _ _ _, Below.refl _ _⟩
  case round =>
    obtain ⟨k, a, c, rfl, rfl, hk, hown, hb⟩ := hrel
    have HO := Lib.hid hown
    have HB := Lib.hid hb
    clear hown hb
    by_cases hlt : k < cnt s.size sz
    · have hps := (HC.out k).1 hlt
      have e : (k + 1) * sz = k * sz + sz := by rw [Nat.add_mul, Nat.one_mul]
      have HAk := Lib.hid (HA.out k hlt)
      rw [e] at HAk
      have hkn : k ≤ 8388608 := by omega
      obtain ⟨p, hp⟩ : ∃ p, k * sz = p := ⟨_, rfl⟩
      have HP : Hid ((k + 1) * sz = p + sz) := Lib.hid (by rw [e, hp])
      rw [hp] at hps HAk ⊢
      have hpz : (p : Int) < s.size := by omega
      have hpl : p ≤ s.size := by omega
      have HLt := Lib.hid hlt
      obtain ⟨v, hv⟩ : ∃ v, min (p + sz) s.size = v := ⟨_, rfl⟩
      rw [hv] at HAk
      have hmn : min ((p : Int) + sz) s.size = (v : Int) := by omega
      have hmi : (if (s.size : Int) < (p : Int) + sz then (s.size : Int) else (p : Int) + sz) = (v : Int) := by split <;> omega
      have hpv : p ≤ v := by omega
      have hvs : v ≤ s.size := by omega
      obtain ⟨ap, cp, w3, hrun, hown, hout⟩ := HX.text_step (s := s.extract p v) HO.out hkn HB.out.size
      have HO3 := Lib.hid hown
      have HB3 := Lib.hid (own_out HO.out HB.out (Nat.le_refl _) (Nat.le_refl _) hout)
      have hkw : (p : Int) + sz ≤ 2097152 := by omega
      clear hown hout hv hps hp e hlt
      repeat (first | (at_builtin; refine wpList_append_run _ rfl _ _ _ _ rfl _ _ rfl rfl _ _ hrun ?_) | go_skip | go_guarded | go_step | go_upon)
      exact ⟨⟨k + 1, ap, cp, by rw [HP.out]; go_num, rfl, HLt.out, by
        unfold strC at HO3 ⊢
        rw [List.take_add_one, HAk.out, Option.toList_some, List.map_append]
        exact HO3.out, HB3.out⟩, by simp [Go.RowKit.intOf]; omega⟩
    · have hke : k = cnt s.size sz := by omega
      have hps : ¬ k * sz < s.size := fun h => hlt ((HC.out k).2 h)
      obtain ⟨p, hp⟩ : ∃ p, k * sz = p := ⟨_, rfl⟩
      rw [hp] at hps ⊢
      have hpz : ¬ (p : Int) < s.size := by omega
      have HKe := Lib.hid hke
      clear hlt hps hp hke
      repeat (first | go_skip | go_guarded | go_step | go_upon)
      go_ret
      refine ⟨_, rfl, ?_, HB.out⟩
      have := HO.out
      rw [HKe.out, List.take_of_length_le (by rw [HL.out]; exact Nat.le_refl _)] at this
      rw [HKe.out]
      exact this
end DM
end Go.Proofs.YtmpmmebmhffaeaaDoor
