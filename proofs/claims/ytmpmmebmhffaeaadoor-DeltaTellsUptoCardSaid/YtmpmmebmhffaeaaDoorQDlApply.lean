/- Layer 14: Apply: the text that steps tell; New. -/
import Derived.Test.YtmpmmebmhffaeaaDoorQDlText
import Derived.Test.YtmpmmebmhffaeaaDoorQBuild
set_option linter.all false
set_option maxRecDepth 100000
set_option maxHeartbeats 25600000
namespace Go.Proofs.YtmpmmebmhffaeaaDoor
open Go.RowKit Go.Lib Go.BigFrame Go.Maps
namespace DM
open OM DL HP HS

theorem builder_below {B b : Nat} {bs : List Value} {w w' : World} (h : GB.Is B b bs w) (hb : Below w.heap.size w w') : GB.Is B b bs w' := by
  have key : ∀ p, GB.At B b p bs w → GB.At B b p bs w' := by
    rintro p ⟨h1, v, h2, h3, h4⟩
    refine ⟨h1, v, row_keep h2 hb, ⟨h3.1, ?_⟩, h4⟩
    rcases h3.2 with hn | ⟨g, cap, cur, fz, hv, hg, hr, rest⟩
    · exact .inl hn
    · exact .inr ⟨g, cap, cur, fz, hv, hg, row_keep hr hb, rest⟩
  rcases h with h | h
  · exact .inl (key _ h)
  · exact .inr (key _ h)
set_option maxRecDepth 100000 in
theorem len_any (B b : Nat) (bs : List Value) (w : World) (h : GB.Is B b bs w) :
    Calls Tryd.prog 27 #[ptr b] w fun r w' => r = .returned (.int .i64 bs.length) ∧ w = w' := by
  obtain ⟨p, v, hr, ho⟩ : ∃ p v, w.heap[b]? = some (.cells #[p, v] 72 (0, 0)) ∧ w.ownsRowF B 5 1 v bs.length bs := by
    rcases h with ⟨_, v, h1, h2, _⟩ | ⟨_, v, h1, h2, _⟩
    · exact ⟨_, v, h1, h2⟩
    · exact ⟨_, v, h1, h2⟩
  obtain ⟨ao, cap, hv⟩ : ∃ ao cap, v = .slice ao bs.length cap := by
    rcases ho.2 with ⟨hv, hn⟩ | ⟨g, cap, cur, fz, hv, _⟩
    · exact ⟨none, 0, by rw [hn]; exact hv⟩
    · exact ⟨_, _, hv⟩
  subst hv
  obtain ⟨c0, c1, -⟩ := row2 hr
  obtain ⟨n, hn⟩ : ∃ n, bs.length = n := ⟨_, rfl⟩
  rw [hn] at c1 ⊢
  clear hr ho h hn
  go_enter Tryd.func27, Tryd.ntmps27
  repeat (first | go_skip | go_guarded | go_step | go_upon)
  go_ret
  exact ⟨rfl, rfl⟩
theorem newL_take (ops : List Stp) (k : Nat) {x : Stp} (h : ops[k]? = some x) : newL (ops.take (k + 1)) = newL (ops.take k) + x.2.2.length := by
  rw [List.take_add_one, h, newL_app]
  simp [newL]
theorem newL_le (ops : List Stp) (k : Nat) : newL (ops.take k) ≤ newL ops := by
  have := newL_app (ops.take k) (ops.drop k)
  rw [List.take_append_drop] at this
  omega
set_option maxRecDepth 100000 in
set_option maxHeartbeats 3200000 in
theorem new_any (ops : List Stp) (ao : Option Addr) (c : Nat) (w : World) (hl : LayO w ao ops) (hn : ops.length ≤ 8388608) (hb : newL ops ≤ 4611686018427387904) :
    Calls Tryd.prog 14 #[.slice ao ops.length c] w fun r w' => r = .returned (.int .i64 (newL ops : Nat)) ∧ Below w.heap.size w w' := by
  obtain ⟨n, hnn⟩ : ∃ n, ops.length = n := ⟨_, rfl⟩
  have HN := Lib.hid hnn
  have HL := Lib.hid hl
  have HLe := Lib.hid (newL_le ops)
  obtain ⟨t, ht⟩ : ∃ t, newL ops = t := ⟨_, rfl⟩
  have HT := Lib.hid ht
  rw [hnn] at hn ⊢
  rw [ht] at hb ⊢
  have hnz : (n : Int) ≤ 8388608 := by omega
  clear hl hnn ht
  go_enter Tryd.func14, Tryd.ntmps14
  repeat (first | go_skip | go_guarded | go_step | go_upon)
  go_loopw [3, 8] (fun s3 s8 wr => ∃ k : Nat, s8 = .int .i64 k ∧ s3 = .int .i64 (newL (ops.take k) : Nat) ∧ k ≤ n ∧ Below w.heap.size w wr) (fun _ s8 _ => n - (Go.RowKit.intOf s8).toNat)
  case atStart => exact ⟨0, rfl, rfl, Nat.zero_le _, Below.refl _ _⟩
  case round =>
    obtain ⟨k, rfl, rfl, hk, hb⟩ := hrel
    have HB := Lib.hid hb
    clear hb
    by_cases hlt : k < n
    · have hkz : (k : Int) < n := by omega
      obtain ⟨g, o, rfl, hg, hc⟩ := (HL.out.below HB.out) (by rw [HN.out]; omega)
      obtain ⟨x, hx⟩ : ∃ x, ops[k]? = some x := ⟨ops[k]'(by rw [HN.out]; exact hlt), List.getElem?_eq_getElem _⟩
      have hs1 := newL_take ops k hx
      have hs2 := HLe.out (k + 1)
      rw [HT.out] at hs2
      obtain ⟨c0, c1, c2⟩ := hc k x hx
      obtain ⟨F, C, T⟩ := x
      simp only [oF, oC, oT, txt] at c0 c1 c2 hs1
      obtain ⟨S, hS⟩ : ∃ S : ByteArray, ⟨T.toArray⟩ = S := ⟨_, rfl⟩
      rw [hS] at c2
      have hlS : S.size = T.length := by rw [← hS]; simp [Lib.size_eq]
      obtain ⟨p, hp⟩ : ∃ p, newL (ops.take k) = p := ⟨_, rfl⟩
      obtain ⟨q, hq⟩ : ∃ q, newL (ops.take (k + 1)) = q := ⟨_, rfl⟩
      rw [hp, hq] at hs1
      rw [hq] at hs2
      rw [hp]
      have hpq : (p : Int) + S.size = q := by omega
      have HQ := Lib.hid hq
      clear hc hx hlt hS hlS hs1 hp hq
      repeat (first | go_skip | go_guarded | go_step | go_upon)
      exact ⟨⟨k + 1, by go_num, by rw [HQ.out], by omega, HB.out.alloc HB.out.size _⟩, by simp [Go.RowKit.intOf]; omega⟩
    · have hkz : ¬ (k : Int) < n := by omega
      obtain rfl : k = n := by omega
      have HF : Hid (newL (ops.take k) = t) := Lib.hid (by rw [List.take_of_length_le (by rw [HN.out]; exact Nat.le_refl _), HT.out])
      rw [HF.out]
      clear hlt
      repeat (first | go_skip | go_guarded | go_step | go_upon)
      go_ret
      exact ⟨rfl, HB.out⟩
/-- The text so far, and what the rest of the steps make of it. -/
def ApInv (s : ByteArray) (sz : Nat) (ops : List Stp) (R : List UInt8 × Int) (w : World) (s18 : Value) (wr : World) : Prop :=
  ∃ (k : Nat) (out : List UInt8), s18 = .int .i64 k ∧ k ≤ ops.length ∧ out.length ≤ 65536 ∧ GB.Is w.heap.size w.heap.size (Lib.byteCells out) wr ∧ applyL s.data.toList sz out (ops.drop k) = R ∧ Below w.heap.size w wr
theorem applyL_step {base : List UInt8} {sz : Nat} {out : List UInt8} {ops : List Stp} {k : Nat} {x : Stp} (h : ops[k]? = some x) :
    applyL base sz out (ops.drop k) = match textL base sz x with
      | none => ([], 140)
      | some t => if 65536 < out.length + t.length then ([], 32) else applyL base sz (out ++ t) (ops.drop (k + 1)) := by
  obtain ⟨hl, hx⟩ := List.getElem?_eq_some_iff.1 h
  rw [List.drop_eq_getElem_cons hl, hx]
  rfl
set_option maxRecDepth 100000 in
set_option maxHeartbeats 6400000 in
theorem apply_any (s : ByteArray) (sz : Nat) (ops : List Stp) (ao : Option Addr) (c : Nat) (w : World) (hl : LayO w ao ops) (h1 : 1 ≤ sz) (h2 : sz ≤ 65536) (hs : s.size ≤ 1048576) (hn : ops.length ≤ 8388608) (hb : ∀ x ∈ ops, x.2.2.length ≤ 1048576) :
    Calls Tryd.prog 12 #[.string s, .int .i64 sz, .slice ao ops.length c] w fun r w' => r = .returned (.tuple #[.string ⟨(applyL s.data.toList sz [] ops).1.toArray⟩, .int .i64 (applyL s.data.toList sz [] ops).2]) ∧ Below w.heap.size w w' := by
  have CZ : Hid (∀ W, Calls Tryd.prog 15 #[.int .i64 sz] W fun r w' => r = .returned (.bool true) ∧ W = w') := Lib.hid (fun W => by
    have := isSize_any (sz : Int) W
    rw [decide_eq_true ⟨by omega, by omega⟩] at this
    exact this)
  have CX : Hid (∀ F C T W, Calls Tryd.prog 26 #[.string s, .int .i64 sz, .agg #[.int .i64 F, .int .i64 C, .string T]] W fun r w' => r = .returned (.tuple #[.string ⟨((textL s.data.toList sz (F, C, T.data.toList)).getD []).toArray⟩, .bool (textL s.data.toList sz (F, C, T.data.toList)).isSome]) ∧ Below W.heap.size W w') := Lib.hid (fun F C T W => textOf_any s sz F C T W h1 h2 hs)
  have HTl : Hid (∀ x ∈ ops, ∀ t, textL s.data.toList sz x = some t → t.length ≤ 1048576) := Lib.hid (fun x hx t ht => by
    unfold textL at ht
    split at ht
    · injection ht with ht
      rw [← ht]
      exact hb x hx
    · split at ht
      · injection ht with ht
        rw [← ht, List.length_take, List.length_drop]
        have := size_data s
        omega
      · cases ht)
  obtain ⟨n, hnn⟩ : ∃ n, ops.length = n := ⟨_, rfl⟩
  have HN := Lib.hid hnn
  have HL := Lib.hid hl
  obtain ⟨R, hR⟩ : ∃ R, applyL s.data.toList sz [] ops = R := ⟨_, rfl⟩
  have HR := Lib.hid hR
  rw [hnn] at hn ⊢
  rw [hR]
  have hnz : (n : Int) ≤ 8388608 := by omega
  clear hl hnn hR hb h1 h2
  go_enter Tryd.func12, Tryd.ntmps12
  repeat (first | go_skip | go_guarded | go_step | go_upon)
  refine (CZ.out _).mono ?_
  rintro r w1 ⟨rfl, rfl⟩
  simp only []
  repeat (first | go_skip | go_guarded | go_step | go_upon)
  have HI : Hid (ApInv s sz ops R w (.int .i64 0) (w.alloc (.cells #[.pointer none, .slice none 0 0] 72))) := Lib.hid ⟨0, [], rfl, Nat.zero_le _, Nat.zero_le _, Lib.IsBuilderF.of (Lib.fresh_isBuilder 72 5 w), HR.out, (Below.refl _ _).alloc (Nat.le_refl _) _⟩
  generalize w.alloc (.cells #[.pointer none, .slice none 0 0] 72) = w0 at HI ⊢
  go_loopw [18] (fun s18 wr => ApInv s sz ops R w s18 wr) (fun s18 _ => n - (Go.RowKit.intOf s18).toNat)
  case atStart => exact HI.out
  case round =>
    clear HI HR
    obtain ⟨k, out, rfl, hk, ho, hbu, hr, hbl⟩ := hrel
    rw [HN.out] at hk
    have HBu := Lib.hid hbu
    have HR := Lib.hid hr
    have HB := Lib.hid hbl
    have hBs := hbl.size
    clear hbu hr hbl
    by_cases hlt : k < n
    · have hkz : (k : Int) < n := by omega
      obtain ⟨g, o, rfl, hg, hc⟩ := (HL.out.below HB.out) (by rw [HN.out]; omega)
      obtain ⟨x, hx⟩ : ∃ x, ops[k]? = some x := ⟨ops[k]'(by rw [HN.out]; exact hlt), List.getElem?_eq_getElem _⟩
      have HS := Lib.hid (applyL_step (base := s.data.toList) (sz := sz) (out := out) hx)
      have HTx := Lib.hid (HTl.out x (List.mem_of_getElem? hx))
      obtain ⟨c0, c1, c2⟩ := hc k x hx
      obtain ⟨F, C, T⟩ := x
      simp only [oF, oC, oT, txt] at c0 c1 c2
      have CXk := Lib.hid (CX.out F C ⟨T.toArray⟩)
      obtain ⟨tx, htx⟩ : ∃ tx, textL s.data.toList sz (F, C, T) = tx := ⟨_, rfl⟩
      have e : (⟨T.toArray⟩ : ByteArray).data.toList = T := by simp
      rw [e, htx] at CXk
      rw [htx] at HTx HS
      obtain ⟨S, hS⟩ : ∃ S : ByteArray, ⟨T.toArray⟩ = S := ⟨_, rfl⟩
      rw [hS] at c2 CXk
      have HBa := Lib.hid (builder_below HBu.out ((Below.refl wr.heap.size wr).alloc (Nat.le_refl _) (.cells #[.int .i64 F, .int .i64 C, .string S] 46)))
      have HBb := Lib.hid (HB.out.alloc HB.out.size (.cells #[.int .i64 F, .int .i64 C, .string S] 46))
      clear hc hx hlt htx e hS
      cases tx with
      | none =>
        simp only [Option.getD_none, Option.isSome_none] at CXk
        have HF : Hid (R = ([], 140)) := Lib.hid (by rw [← HR.out, HS.out])
        repeat (first | go_skip | go_guarded | go_step | go_upon)
        refine (CXk.out _).mono ?_
        rintro r w2 ⟨rfl, hb2⟩
        simp only []
        have HB2 := Lib.hid (HBb.out.trans (hb2.mono HBb.out.size))
        clear hb2
        repeat (first | go_skip | go_guarded | go_step | go_upon)
        go_ret2
        exact ⟨by rw [HF.out]; rfl, HB2.out⟩
      | some t =>
        simp only [Option.getD_some, Option.isSome_some] at CXk
        have htl := HTx.out t rfl
        obtain ⟨X, hX⟩ : ∃ X : ByteArray, ⟨t.toArray⟩ = X := ⟨_, rfl⟩
        rw [hX] at CXk
        have hXl : X.size = t.length := by rw [← hX]; simp [Lib.size_eq]
        have HXc : Hid (Lib.strCells X = Lib.byteCells t) := Lib.hid (by rw [← hX]; simp [Lib.byteCells, Lib.strCells])
        have HLn : Hid ((Lib.byteCells out).length = out.length) := Lib.hid (Lib.byteCells_length out)
        obtain ⟨q, hq⟩ : ∃ q, out.length = q := ⟨_, rfl⟩
        rw [hq] at ho HLn
        by_cases hov : 65536 < out.length + t.length
        · have HF : Hid (R = ([], 32)) := Lib.hid (by rw [← HR.out, HS.out]; simp only; rw [if_pos hov])
          have hgt : (65536 : Int) - q < X.size := by omega
          clear hX hXl hq hov
          repeat (first | go_skip | go_guarded | go_step | go_upon)
          refine (CXk.out _).mono ?_
          rintro r w2 ⟨rfl, hb2⟩
          simp only []
          have HB2 := Lib.hid (HBb.out.trans (hb2.mono HBb.out.size))
          have CL := Lib.hid (len_any _ _ _ _ (builder_below HBa.out hb2))
          rw [HLn.out] at CL
          clear hb2
          repeat (first | go_skip | go_guarded | go_step | go_upon)
          refine CL.out.mono ?_
          rintro r w3 ⟨rfl, rfl⟩
          simp only []
          repeat (first | go_skip | go_guarded | go_step | go_upon)
          go_ret2
          exact ⟨by rw [HF.out]; rfl, HB2.out⟩
        · have HF : Hid (applyL s.data.toList sz (out ++ t) (ops.drop (k + 1)) = R) := Lib.hid (by rw [← HR.out, HS.out]; simp only; rw [if_neg hov])
          have hgt : ¬ (65536 : Int) - q < X.size := by omega
          have HO2 : Hid ((out ++ t).length ≤ 65536) := Lib.hid (by rw [List.length_append]; omega)
          have hXs : X.size ≤ 1048576 := by omega
          clear hX hXl hq hov
          repeat (first | go_skip | go_guarded | go_step | go_upon)
          refine (CXk.out _).mono ?_
          rintro r w2 ⟨rfl, hb2⟩
          simp only []
          have HB2 := Lib.hid (HBb.out.trans (hb2.mono HBb.out.size))
          have HBu2 := Lib.hid (builder_below HBa.out hb2)
          have CL := Lib.hid (len_any _ _ _ _ HBu2.out)
          rw [HLn.out] at CL
          clear hb2
          repeat (first | go_skip | go_guarded | go_step | go_upon)
          refine CL.out.mono ?_
          rintro r w3 ⟨rfl, rfl⟩
          simp only []
          have CW := Lib.hid (GB.str_any w.heap.size w.heap.size (Lib.byteCells out) X w2 HBu2.out (by rw [HLn.out]; omega) HB2.out.size)
          unfold GB.WsPost at CW
          repeat (first | go_skip | go_guarded | go_step | go_upon)
          refine CW.out.mono ?_
          rintro r w3 ⟨rfl, hbu3, hb3, -⟩
          simp only []
          have HBu3 : Hid (GB.Is w.heap.size w.heap.size (Lib.byteCells (out ++ t)) w3) := Lib.hid (by rw [Lib.byteCells_append, ← HXc.out]; exact hbu3)
          have HB3 := Lib.hid (HB2.out.trans hb3)
          clear hbu3 hb3
          repeat (first | go_skip | go_guarded | go_step | go_upon)
          exact ⟨⟨k + 1, out ++ t, by go_num, by rw [HN.out]; omega, HO2.out, HBu3.out, HF.out, HB3.out⟩, by simp [Go.RowKit.intOf]; omega⟩
    · have hkz : ¬ (k : Int) < n := by omega
      obtain rfl : k = n := by omega
      have HF : Hid (R = (out, 0)) := Lib.hid (by
        rw [← HR.out, List.drop_eq_nil_of_le (by rw [HN.out]; exact Nat.le_refl _)]
        rfl)
      have CS := Lib.hid (Tryd.Builder_String_any_f w.heap.size w.heap.size out wr HBu.out HB.out.size)
      clear hlt
      repeat (first | go_skip | go_guarded | go_step | go_upon)
      refine CS.out.mono ?_
      rintro r w2 ⟨rfl, -, hb2⟩
      simp only []
      have HB2 := Lib.hid (HB.out.trans hb2)
      clear hb2
      repeat (first | go_skip | go_guarded | go_step | go_upon)
      go_ret2
      exact ⟨by rw [HF.out]; rfl, HB2.out⟩
theorem apply_no (s : ByteArray) (z : Int) (v : Value) (w : World) (hz : ¬ (1 ≤ z ∧ z ≤ 65536)) :
    Calls Tryd.prog 12 #[.string s, .int .i64 z, v] w fun r w' => r = .returned (.tuple #[.string ⟨#[]⟩, .int .i64 2]) ∧ w = w' := by
  have C := Lib.hid (isSize_any z w)
  rw [decide_eq_false hz] at C
  go_enter Tryd.func12, Tryd.ntmps12
  repeat (first | go_skip | go_guarded | go_step | go_upon)
  refine C.out.mono ?_
  rintro r w1 ⟨rfl, rfl⟩
  simp only []
  repeat (first | go_skip | go_guarded | go_step | go_upon)
  go_ret2
  exact ⟨rfl, rfl⟩
end DM
end Go.Proofs.YtmpmmebmhffaeaaDoor
