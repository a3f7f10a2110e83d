/- Layer 3: the contracts of the writers Num and Text, and of the statements' own guard 'awake'. -/
import Derived.Test.YtmcofccmbbjkjaaCodeRd
import Derived.Laws.IdiomStrings
import Derived.Laws.OwnMore
namespace Go.Proofs.Ytmcofccmbbjkjaa
open Go.RowKit Go.Lib
namespace CR
open CP

theorem nat_i64 {n : Int} (h0 : 0 ≤ n) : ∃ m : Nat, n = m := ⟨n.toNat, by omega⟩
def cells (l : List UInt8) : List Value := l.map fun b => .int .u8 b.toNat
theorem cells_app (a b : List UInt8) : cells (a ++ b) = cells a ++ cells b := by simp [cells]
theorem cells_length (a : List UInt8) : (cells a).length = a.length := by simp [cells]
theorem one_new (w : World) (v : Value) (t : TypeId) : ∀ (j : Nat) u, [v][j]? = some u → (w.alloc (.cells #[v] t)).cell? ((⟨w.heap.size, 0, none⟩ : Addr).add j) = some u := by
  intro j u hj
  match j, hj with
  | 0, hj =>
    simp at hj
    subst hj
    simp [Addr.add]
  | j + 1, hj => simp at hj
theorem info_parts {t : TypeId} {i : Option TypeInfo} {z : Option Value} {a b : Nat} (h : i.map (fun i => (i.zero, i.size, i.bytes)) = some (z, a, b)) : ∃ i0, i = some i0 ∧ i0.zero = z ∧ i0.size = a ∧ i0.bytes = b := by
  cases i with
  | none => simp at h
  | some i0 =>
    simp only [Option.map_some, Option.some.injEq, Prod.mk.injEq] at h
    exact ⟨i0, rfl, h.1, h.2.1, h.2.2⟩
theorem conv_own {w : World} {B g cap : Nat} {l : List UInt8} (h : w.ownsRow B 5 1 (.slice (some ⟨g, 0, none⟩) l.length cap) l.length (cells l)) :
    (convert 43 9 (.slice (some ⟨g, 0, none⟩) l.length cap)).run Try.prog w = .ok (.string ⟨l.toArray⟩) w :=
  run_convert_bytes_back (P := Try.prog) w 43 9 5 ⟨g, 0, none⟩ cap l Try.underlying43 Try.underlying5 Try.underlying9 (fun j hj => World.ownsRow.cells h rfl j _ (by simp [cells, List.getElem?_eq_getElem hj]))
def NumPost (l : List UInt8) (w : World) (r : Ending) (w' : World) : Prop := ∃ t : ByteArray, r = .returned (.string t) ∧ t.data.toList = l ∧ Below w.heap.size w w'
theorem num_neg (n : Int) (w : World) (h : n < 0) : Calls Try.prog 8 #[.int .i64 n] w (NumPost [] w) := by
  go_enter Try.func8, Try.ntmps8
  go_wp2
  go_ret
  exact ⟨_, rfl, rfl, Below.refl _ _⟩
theorem byte_lo {n : Nat} (h : n < 128) : (IntKind.u8.wrap (n : Int)) = ((UInt8.ofNat n).toNat : Nat) := by
  rw [byte_of (by omega)]
  simp [IntKind.wrap, IntKind.bits, IntKind.signed]
  omega
set_option maxRecDepth 100000 in
set_option maxHeartbeats 1600000 in
theorem num_nat (n : Nat) (w : World) (h : n < 2 ^ 63) : Calls Try.prog 8 #[.int .i64 n] w (NumPost (nm n) w) := by
  have infoU : (Try.prog.info? 5).map (fun i => (i.zero, i.size, i.bytes)) = some (some (.int .u8 0), 1, 1) := by kernel_rfl
  obtain ⟨i0, hi, hz0, hz1, hz2⟩ := info_parts (t := 5) infoU
  have hn9 := nm_length (n := n) (k := 0) (by decide) (by have e : (128 : Nat) ^ (9 - 0) = 2 ^ 63 := by decide
                                                          omega)
  clear infoU
  have hz : ¬ (n : Int) < 0 := by omega
  go_enter Try.func8, Try.ntmps8
  go_wp2
  go_loopw [0, 3] (fun s0 s3 wr => ∃ (m : Nat) (done : List UInt8), s0 = .int .i64 m ∧ m ≤ n ∧ nm n = done ++ nm m ∧ wr.ownsRow w.heap.size 5 1 s3 done.length (cells done) ∧ Below w.heap.size w wr) (fun s0 _ _ => (Go.RowKit.intOf s0).toNat)
  case atStart => exact ⟨n, [], rfl, Nat.le_refl _, rfl, World.ownsRow_nil _ _ _ _, Below.refl _ _⟩
  case round =>
    obtain ⟨m, done, rfl, hmn, hnm, hown, hb⟩ := hrel
    have HO := Lib.hid hown
    have HB := Lib.hid hb
    have hbs := hb.size
    have Hnm := Lib.hid hnm
    have hdl : done.length ≤ 9 := by
      have := congrArg List.length hnm
      rw [List.length_append] at this
      omega
    clear hown hb hnm
    by_cases hm : m < 128
    · have hmz : ¬ (128 : Int) ≤ m := by omega
      go_wp2_with (first | (at_builtin; refine wpList_append_own _ rfl _ _ 43 rfl w.heap.size 5 i0 (.int .u8 0) 1 1 Try.underlying43 hi hz0 hz1 hz2 rfl (by decide) _ _ _ rfl (HO.out.alloc _) ⟨wr.heap.size, 0, none⟩ 1 1 [_] rfl rfl (one_new _ _ _) (fun x hx => by simp at hx; subst hx; rfl) (by unfold maxLen; omega) (by omega) (by simp; omega) ?_; intro v3 w3 hown3 hgrow3 hnil3; have HO3 := Lib.hid hown3; have HB3 := Lib.hid ((HB.out.alloc hbs _).grown hgrow3 (by simp; omega) (fun j hj => (HO.out.lt j hj).1)); have hbs3 := HB3.out.size; clear hown3 hgrow3 hnil3))
      have HN := Lib.hid (show nm n = done ++ [UInt8.ofNat m] by rw [Hnm.out, nm_lt hm])
      have HO4 : Hid (w3.ownsRow w.heap.size 5 1 v3 (nm n).length (cells (nm n))) := Lib.hid (by
        rw [HN.out, cells_app, List.length_append]
        have e : cells [UInt8.ofNat m] = [Value.int .u8 (m : Int)] := by
          unfold cells
          rw [List.map_singleton, byte_of (by omega)]
        rw [e]
        exact HO3.out)
      obtain ⟨g, cap, hv⟩ : ∃ g cap, v3 = .slice (some ⟨g, 0, none⟩) (nm n).length cap := by
        rcases HO4.out.2 with ⟨_, h0⟩ | ⟨g, cap, cur, hv, _⟩
        · exact absurd (List.eq_nil_of_length_eq_zero h0) (nm_ne n)
        · exact ⟨g, cap, hv⟩
      subst hv
      have hcv := conv_own HO4.out
      rw [hcv]
      simp only [Result.andThen]
      rw [Oper.upon_value]
      go_wp2
      go_ret
      exact ⟨_, rfl, rfl, HB3.out⟩
    · have hmz : (128 : Int) ≤ m := by omega
      go_wp2_with (first | (at_builtin; refine wpList_append_own _ rfl _ _ 43 rfl w.heap.size 5 i0 (.int .u8 0) 1 1 Try.underlying43 hi hz0 hz1 hz2 rfl (by decide) _ _ _ rfl (HO.out.alloc _) ⟨wr.heap.size, 0, none⟩ 1 1 [_] rfl rfl (one_new _ _ _) (fun x hx => by simp at hx; subst hx; rfl) (by unfold maxLen; omega) (by omega) (by simp; omega) ?_; intro v3 w3 hown3 hgrow3 hnil3; have HO3 := Lib.hid hown3; have HB3 := Lib.hid ((HB.out.alloc hbs _).grown hgrow3 (by simp; omega) (fun j hj => (HO.out.lt j hj).1)); have hbs3 := HB3.out.size; clear hown3 hgrow3 hnil3))
      go_roundw
      case rel =>
        refine ⟨m / 128, done ++ [UInt8.ofNat (m % 128 + 128)], by go_num, by omega, by rw [Hnm.out, nm_ge (by omega)]; simp, ?_, HB3.out⟩
        rw [cells_app, List.length_append]
        have e : cells [UInt8.ofNat (m % 128 + 128)] = [Value.int .u8 ((m : Int) % 128 + 128)] := by
          unfold cells
          rw [List.map_singleton, byte_of (by omega)]
          go_num
        rw [e]
        exact HO3.out
      case measure => simp [Go.RowKit.intOf]; omega
def textPost (s : ByteArray) := NumPost (textS s.data.toList)
theorem text_wr (s : ByteArray) (w : World) (h : (nm s.size).length + s.size ≤ maxLen) : Calls Try.prog 9 #[.string s] w (NumPost (textS s.data.toList) w) := by
  have hs : s.size < 2 ^ 63 := by unfold maxLen at h; omega
  have cN := num_nat s.size w hs
  unfold maxLen at h
  have H := Lib.hid h
  go_enter Try.func9, Try.ntmps9
  go_wp2_with fail
  refine cN.mono ?_
  rintro e w1 ⟨t, rfl, ht, hb⟩
  have Ht := Lib.hid ht
  have hts : t.size + s.size ≤ 9223372036854775807 := by rw [Lib.size_eq t, ht]; omega
  clear ht h
  go_wp2
  go_ret
  exact ⟨_, rfl, by unfold textS; rw [← Lib.size_eq, ← Ht.out]; simp [ByteArray.data_append], hb⟩
/-- What an empty text is written as. -/
theorem awake_any (w : World) : Calls Try.prog 7 #[] w fun e w' => e = .returned (.bool true) ∧ Below w.heap.size w w' := by
  have cT := text_wr ⟨#[97, 98]⟩ w (by rw [show (⟨#[97, 98]⟩ : ByteArray).size = 2 from rfl, nm_lt (by decide)]; decide)
  have e2 : textS [97, 98] = [2, 97, 98] := by unfold textS; rw [nm_lt (by decide)]; rfl
  have e128 : nm 128 = [128, 1] := by rw [nm_ge (by decide), nm_lt (by decide)]; rfl
  have cN := fun W => num_nat 128 W (by decide)
  rw [e128] at cN
  have cT : Calls Try.prog 9 #[.string ⟨#[97, 98]⟩] w (NumPost [2, 97, 98] w) := by rw [← e2]; exact cT
  clear e2 e128
  go_enter Try.func7, Try.ntmps7
  go_wp2_with fail
  refine cT.mono ?_
  rintro e w1 ⟨t, rfl, ht, hb⟩
  have HB := Lib.hid hb
  have hts : t.size = 3 := by rw [Lib.size_eq, ht]; rfl
  have Ht := Lib.hid ht
  clear ht hb
  go_wp2_with fail
  refine (new_any t w1).mono ?_
  rintro e w2 ⟨rfl, hr, hb⟩
  have HR := Lib.hid hr
  have HB2 := Lib.hid (HB.out.trans (hb.mono HB.out.size))
  have hbk : w.heap.size ≤ w1.heap.size := HB.out.size
  clear hr hb
  go_wp2_with fail
  refine (cN w2).mono ?_
  rintro e w3 ⟨u, rfl, hu, hb⟩
  have hue : (u.toList == [128, 1]) = true := by rw [Lib.toList_data, hu]; rfl
  have HR3 := Lib.hid (HR.out.keep hb HR.out.lt)
  have HB3 := Lib.hid (HB2.out.trans (hb.mono HB2.out.size))
  clear hu hb
  have hrd : cnt t.data.toList 9 1 = (2, 1, 0) := by rw [Ht.out]; decide
  have cX := text_ok w1.heap.size t 9 w3 2 1 HR3.out (by unfold maxLen; omega) hrd
  have e1 : (t.data.toList.drop 1).take 2 = [97, 98] := by rw [Ht.out]; rfl
  have e3 : t.data.toList.drop (1 + 2) = [] := by rw [Ht.out]; rfl
  rw [e1, e3] at cX
  clear hrd e1 e3
  go_wp2_with fail
  refine cX.mono ?_
  rintro e w4 ⟨v, hv, rfl, s4, hs4, hr4, hb4⟩
  have hve : (v.toList == [97, 98]) = true := by rw [Lib.toList_data, hv]; rfl
  have cE := end_any w1.heap.size s4 0 w4 hr4 (by rw [Lib.size_eq, hs4]; decide)
  rw [if_neg (by simp), if_pos hs4] at cE
  have HB4 := Lib.hid (HB3.out.trans (hb4.mono hbk))
  clear hv hr4 hb4 hs4
  go_wp2_with fail
  refine cE.mono ?_
  rintro e w5 ⟨rfl, rfl⟩
  go_wp2
  go_ret
  exact ⟨rfl, HB4.out⟩
end CR
end Go.Proofs.Ytmcofccmbbjkjaa
