
/- Layer 3: the contracts of the writers Num and Text, and of the statements' own guard 'awake'. -/
import Derived.Test.YtdkfoakmjeealaaQMxRdr
import Derived.Laws.IdiomStrings
import Derived.Laws.OwnMore
set_option linter.all false
set_option maxRecDepth 100000
set_option maxHeartbeats 25600000
namespace Go.Proofs.Ytdkfoakmjeealaa
open Go.RowKit Go.Lib
namespace CR
open CP

theorem nat_i64 {n : Int} (h0 : 0 ≤ n) : ∃ m : Nat, n = m := ⟨n.toNat, by omega⟩
def cells (l : List UInt8) : List Value := l.map fun b => .int .u8 b.toNat
theorem cells_app (a b : List UInt8) : cells (a ++ b) = cells a ++ cells b := by simp [cells]
theorem cells_length (a : List UInt8) : (cells a).length = a.length := by simp [cells]
theorem one_new (w : World) (v : Value) (t : TypeId) : ∀ (j : Nat) u, [v][j]? = some u → (w.alloc (.cells #[v] t)).cell? ((⟨w.heap.size, 0, none⟩ : Addr).add j) = some u := by
  intro j u hj
  match j, hj with
  | 0, hj =>
    simp at hj
    subst hj
    simp [Addr.add]
  | j + 1, hj => simp at hj
theorem info_parts {i : Option TypeInfo} {z : Option Value} {a b : Nat} (h : i.map (fun i => (i.zero, i.size, i.bytes)) = some (z, a, b)) : ∃ i0, i = some i0 ∧ i0.zero = z ∧ i0.size = a ∧ i0.bytes = b := by
  cases i with
  | none => simp at h
  | some i0 =>
    simp only [Option.map_some, Option.some.injEq, Prod.mk.injEq] at h
    exact ⟨i0, rfl, h.1, h.2.1, h.2.2⟩
theorem conv_own {w : World} {B g cap : Nat} {l : List UInt8} (h : w.ownsRow B 5 1 (.slice (some ⟨g, 0, none⟩) l.length cap) l.length (cells l)) :
    (convert 93 9 (.slice (some ⟨g, 0, none⟩) l.length cap)).run Try.prog w = .ok (.string ⟨l.toArray⟩) w :=
  run_convert_bytes_back (P := Try.prog) w 93 9 5 ⟨g, 0, none⟩ cap l Try.underlying93 Try.underlying5 Try.underlying9 (fun j hj => World.ownsRow.cells h rfl j _ (by simp [cells, List.getElem?_eq_getElem hj]))
def NumPost (l : List UInt8) (w : World) (r : Ending) (w' : World) : Prop := ∃ t : ByteArray, r = .returned (.string t) ∧ t.data.toList = l ∧ Below w.heap.size w w'
theorem num_neg (n : Int) (w : World) (h : n < 0) : Calls Try.prog 39 #[.int .i64 n] w (NumPost [] w) := by
  go_enter Try.func39, Try.ntmps39
  go_wp2
  go_ret
  exact ⟨_, rfl, rfl, Below.refl _ _⟩
theorem byte_lo {n : Nat} (h : n < 128) : (IntKind.u8.wrap (n : Int)) = ((UInt8.ofNat n).toNat : Nat) := by
  rw [byte_of (by omega)]
  simp [IntKind.wrap, IntKind.bits, IntKind.signed]
  omega
set_option maxRecDepth 100000 in
set_option maxHeartbeats 1600000 in
theorem num_nat (n : Nat) (w : World) (h : n < 2 ^ 63) : Calls Try.prog 39 #[.int .i64 n] w (NumPost (nm n) w) := by
  have infoU : (Try.prog.info? 5).map (fun i => (i.zero, i.size, i.bytes)) = some (some (.int .u8 0), 1, 1) := by kernel_rfl
  obtain ⟨i0, hi, hz0, hz1, hz2⟩ := info_parts infoU
  have hn9 := nm_length (n := n) (k := 0) (by decide) (by have e : (128 : Nat) ^ (9 - 0) = 2 ^ 63 := by decide
                                                          omega)
  clear infoU
  have hz : ¬ (n : Int) < 0 := by omega
  go_enter Try.func39, Try.ntmps39
  go_wp2
  go_loopw [0, 3] (fun s0 s3 wr => ∃ (m : Nat) (done : List UInt8), s0 = .int .i64 m ∧ m ≤ n ∧ nm n = done ++ nm m ∧ wr.ownsRow w.heap.size 5 1 s3 done.length (cells done) ∧ Below w.heap.size w wr) (fun s0 _ _ => (Go.RowKit.intOf s0).toNat)
  case atStart => exact ⟨n, [], rfl, Nat.le_refl _, rfl, World.ownsRow_nil _ _ _ _, Below.refl _ _⟩
  case round =>
    obtain ⟨m, done, rfl, hmn, hnm, hown, hb⟩ := hrel
    have HO := Lib.hid hown
    have HB := Lib.hid hb
    have hbs := hb.size
    have Hnm := Lib.hid hnm
    have hdl : done.length ≤ 9 := by
      have := congrArg List.length hnm
      rw [List.length_append] at this
      omega
    clear hown hb hnm
    by_cases hm : m < 128
    · have hmz : ¬ (128 : Int) ≤ m := by omega
      go_wp2_with (first | (at_builtin; refine wpList_append_own _ rfl _ _ 93 rfl w.heap.size 5 i0 (.int .u8 0) 1 1 Try.underlying93 hi hz0 hz1 hz2 rfl (by decide) _ _ _ rfl (HO.out.alloc _) ⟨wr.heap.size, 0, none⟩ 1 1 [_] rfl rfl (one_new _ _ _) (fun x hx => by simp at hx; subst hx; rfl) (by unfold maxLen; omega) (by omega) (by simp; omega) ?_; intro v3 w3 hown3 hgrow3 hnil3; have HO3 := Lib.hid hown3; have HB3 := Lib.hid ((HB.out.alloc hbs _).grown hgrow3 (by simp; omega) (fun j hj => (HO.out.lt j hj).1)); have hbs3 := HB3.out.size; clear hown3 hgrow3 hnil3))
      have HN := Lib.hid (show nm n = done ++ [UInt8.ofNat m] by rw [Hnm.out, nm_lt hm])
      have HO4 : Hid (w3.ownsRow w.heap.size 5 1 v3 (nm n).length (cells (nm n))) := Lib.hid (by
        rw [HN.out, cells_app, List.length_append]
        have e : cells [UInt8.ofNat m] = [Value.int .u8 (m : Int)] := by
          unfold cells
          rw [List.map_singleton, byte_of (by omega)]
        rw [e]
        exact HO3.out)
      obtain ⟨g, cap, hv⟩ : ∃ g cap, v3 = .slice (some ⟨g, 0, none⟩) (nm n).length cap := by
        rcases HO4.out.2 with ⟨_, h0⟩ | ⟨g, cap, cur, hv, _⟩
        · exact absurd (List.eq_nil_of_length_eq_zero h0) (nm_ne n)
        · exact ⟨g, cap, hv⟩
      subst hv
      have hcv := conv_own HO4.out
      rw [hcv]
      simp only [Result.andThen]
      rw [Oper.upon_value]
      go_wp2
      go_ret
      exact ⟨_, rfl, rfl, HB3.out⟩
    · have hmz : (128 : Int) ≤ m := by omega
      go_wp2_with (first | (at_builtin; refine wpList_append_own _ rfl _ _ 93 rfl w.heap.size 5 i0 (.int .u8 0) 1 1 Try.underlying93 hi hz0 hz1 hz2 rfl (by decide) _ _ _ rfl (HO.out.alloc _) ⟨wr.heap.size, 0, none⟩ 1 1 [_] rfl rfl (one_new _ _ _) (fun x hx => by simp at hx; subst hx; rfl) (by unfold maxLen; omega) (by omega) (by simp; omega) ?_; intro v3 w3 hown3 hgrow3 hnil3; have HO3 := Lib.hid hown3; have HB3 := Lib.hid ((HB.out.alloc hbs _).grown hgrow3 (by simp; omega) (fun j hj => (HO.out.lt j hj).1)); have hbs3 := HB3.out.size; clear hown3 hgrow3 hnil3))
      go_roundw
      case rel =>
        refine ⟨m / 128, done ++ [UInt8.ofNat (m % 128 + 128)], by go_num, by omega, by rw [Hnm.out, nm_ge (by omega)]; simp, ?_, HB3.out⟩
        rw [cells_app, List.length_append]
        have e : cells [UInt8.ofNat (m % 128 + 128)] = [Value.int .u8 ((m : Int) % 128 + 128)] := by
          unfold cells
          rw [List.map_singleton, byte_of (by omega)]
          go_num
        rw [e]
        exact HO3.out
      case measure => simp [Go.RowKit.intOf]; omega
def textPost (s : ByteArray) := NumPost (textS s.data.toList)
theorem text_wr (s : ByteArray) (w : World) (h : (nm s.size).length + s.size ≤ maxLen) : Calls Try.prog 40 #[.string s] w (NumPost (textS s.data.toList) w) := by
  have hs : s.size < 2 ^ 63 := by unfold maxLen at h; omega
  have cN := num_nat s.size w hs
  unfold maxLen at h
  have H := Lib.hid h
  go_enter Try.func40, Try.ntmps40
  go_wp2_with fail
  refine cN.mono ?_
  rintro e w1 ⟨t, rfl, ht, hb⟩
  have Ht := Lib.hid ht
  have hts : t.size + s.size ≤ 9223372036854775807 := by rw [Lib.size_eq t, ht]; omega
  clear ht h
  go_wp2
  go_ret
  exact ⟨_, rfl, by unfold textS; rw [← Lib.size_eq, ← Ht.out]; simp [ByteArray.data_append], hb⟩
end CR
end Go.Proofs.Ytdkfoakmjeealaa
