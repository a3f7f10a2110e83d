/- Layer 4: the contract of the program's schedule: a block's sixteen words, and those drawn out of them. -/
import Derived.Test.YtmpmmebmhffaeaaDoorQHashRow
import Derived.RegionTactic
import Derived.Deep.RegionWith
import Derived.BigRegion
set_option linter.all false
set_option maxRecDepth 100000
set_option maxHeartbeats 25600000
namespace Go.Proofs.YtmpmmebmhffaeaaDoor
open Go.RowKit Go.Lib
namespace HQ
open HP HS HR

theorem zero64 : #[Value.int .u32 0, Value.int .u32 0, Value.int .u32 0, Value.int .u32 0, Value.int .u32 0, Value.int .u32 0, Value.int .u32 0, Value.int .u32 0, Value.int .u32 0, Value.int .u32 0, Value.int .u32 0, Value.int .u32 0, Value.int .u32 0, Value.int .u32 0, Value.int .u32 0, Value.int .u32 0, Value.int .u32 0, Value.int .u32 0, Value.int .u32 0, Value.int .u32 0, Value.int .u32 0, Value.int .u32 0, Value.int .u32 0, Value.int .u32 0, Value.int .u32 0, Value.int .u32 0, Value.int .u32 0, Value.int .u32 0, Value.int .u32 0, Value.int .u32 0, Value.int .u32 0, Value.int .u32 0, Value.int .u32 0, Value.int .u32 0, Value.int .u32 0, Value.int .u32 0, Value.int .u32 0, Value.int .u32 0, Value.int .u32 0, Value.int .u32 0, Value.int .u32 0, Value.int .u32 0, Value.int .u32 0, Value.int .u32 0, Value.int .u32 0, Value.int .u32 0, Value.int .u32 0, Value.int .u32 0, Value.int .u32 0, Value.int .u32 0, Value.int .u32 0, Value.int .u32 0, Value.int .u32 0, Value.int .u32 0, Value.int .u32 0, Value.int .u32 0, Value.int .u32 0, Value.int .u32 0, Value.int .u32 0, Value.int .u32 0, Value.int .u32 0, Value.int .u32 0, Value.int .u32 0, Value.int .u32 0] = cellsU (List.replicate 64 0) := by simp [cellsU, List.replicate]
/-- So many words, and noughts behind them up to 64. -/
def filled (W : List Nat) : List Nat := W ++ List.replicate (64 - W.length) 0
theorem filled_nil : filled [] = List.replicate 64 0 := rfl
theorem filled_len {W : List Nat} (h : W.length ≤ 64) : (filled W).length = 64 := by
  unfold filled
  rw [List.length_append, List.length_replicate]
  omega
theorem filled_at {W : List Nat} {i x : Nat} (h : W[i]? = some x) : (filled W)[i]? = some x := by
  unfold filled
  rw [List.getElem?_append_left]
  · exact h
  · exact (List.getElem?_eq_some_iff.1 h).1
theorem filled_set {W : List Nat} (h : W.length < 64) (x : Nat) : (filled W).set W.length x = filled (W ++ [x]) := by
  unfold filled
  rw [List.set_append_right _ _ (Nat.le_refl _), Nat.sub_self, List.length_append, List.length_singleton, List.append_assoc]
  rw [show 64 - W.length = (64 - (W.length + 1)) + 1 by omega, List.replicate_succ, List.set_cons_zero]
  rfl
theorem filled_full {W : List Nat} (h : W.length = 64) : filled W = W := by
  unfold filled
  rw [h]
  exact List.append_nil W
theorem filled_get {W : List Nat} {i : Nat} (h : W.length ≤ i) (h2 : i < 64) : (filled W)[i]? = some 0 := by
  unfold filled
  rw [List.getElem?_append_right h, List.getElem?_replicate, if_pos (by omega)]
theorem idx_byte (p : ByteArray) (i : Nat) (h : i < p.size) (z : Int) (hz : z = i) :
    ∃ x : Nat, (p.data.toList.getD i 0).toNat = x ∧ (x : Int) < 256 ∧ ∀ W, (Instr.index 9 (.string p) (.int .i64 z)).run Tryd.prog W = .ok (.int .u8 (x : Nat)) W := by
  subst hz
  refine ⟨_, rfl, ?_, fun W => ?_⟩
  · have := (p.data.toList.getD i 0).toNat_lt
    omega
  · have h0 : 0 ≤ (i : Int) ∧ (i : Int) < (p.size : Int) := by omega
    rw [run_index_string W 9 p .i64 (i : Int) Tryd.underlying9, dif_pos h0]
    have e := Lib.data_getElem? p i h
    rw [List.getD_eq_getElem?_getD, e]
    rfl
theorem or_add (a b i : Nat) (hb : b < 2 ^ i) : 2 ^ i * a ||| b = 2 ^ i * a + b := (Nat.two_pow_add_eq_or_of_lt hb a).symm
theorem or4 (a b c d : Nat) (ha : (a : Int) < 256) (hb : (b : Int) < 256) (hc : (c : Int) < 256) (hd : (d : Int) < 256) :
    bits .or .u32 (bits .or .u32 (bits .or .u32 ((a : Int) * 16777216) ((b : Int) * 65536)) ((c : Int) * 256)) (d : Int) = ((a * 16777216 + b * 65536 + c * 256 + d : Nat) : Int) := by
  have e1 : bits .or .u32 ((a : Int) * 16777216) ((b : Int) * 65536) = ((a * 16777216 + b * 65536 : Nat) : Int) := by
    rw [show (a : Int) * 16777216 = ((a * 16777216 : Nat) : Int) by omega, show (b : Int) * 65536 = ((b * 65536 : Nat) : Int) by omega, or_u32 _ _ (by omega) (by omega)]
    have h := or_add a (b * 65536) 24 (by omega)
    rw [show a * 16777216 = 2 ^ 24 * a by omega, h]
  have e2 : bits .or .u32 ((a * 16777216 + b * 65536 : Nat) : Int) ((c : Int) * 256) = ((a * 16777216 + b * 65536 + c * 256 : Nat) : Int) := by
    rw [show (c : Int) * 256 = ((c * 256 : Nat) : Int) by omega, or_u32 _ _ (by omega) (by omega)]
    have h := or_add (a * 256 + b) (c * 256) 16 (by omega)
    rw [show a * 16777216 + b * 65536 = 2 ^ 16 * (a * 256 + b) by omega, h]
  rw [e1, e2, or_u32 _ _ (by omega) (by omega)]
  have h := or_add (a * 65536 + b * 256 + c) d 8 (by omega)
  rw [show a * 16777216 + b * 65536 + c * 256 = 2 ^ 8 * (a * 65536 + b * 256 + c) by omega, h]
theorem words16_len (l : List UInt8) : (words16 l).length = 16 := by simp [words16]
theorem words16_take (l : List UInt8) (k : Nat) (h : k < 16) : (words16 l).take (k + 1) = (words16 l).take k ++ [wordBE l k] := by
  rw [List.take_add_one]
  congr 1
  unfold words16
  rw [List.getElem?_map, List.getElem?_range h]
  rfl
/-- The next word. -/
def nextW (w : List Nat) : Nat := (w.getD (w.length - 16) 0 + w.getD (w.length - 7) 0 + ls0 (w.getD (w.length - 15) 0) + ls1 (w.getD (w.length - 2) 0)) % 4294967296
theorem sched_end : ∀ (n : Nat) (w : List Nat), schedGo (n + 1) w = schedGo n w ++ [nextW (schedGo n w)]
  | 0, _ => rfl
  | n + 1, w => by
    show schedGo (n + 1) (w ++ [nextW w]) = schedGo n (w ++ [nextW w]) ++ _
    rw [sched_end n]
    rfl
theorem sched_len : ∀ (n : Nat) (w : List Nat), (schedGo n w).length = w.length + n
  | 0, _ => rfl
  | n + 1, w => by
    rw [sched_end, List.length_append, sched_len n w]
    rfl
theorem sched_lt : ∀ (n : Nat) (w : List Nat), (∀ x ∈ w, x < 4294967296) → ∀ x ∈ schedGo n w, x < 4294967296
  | 0, _, h => h
  | n + 1, w, h => by
    rw [sched_end]
    intro x hx
    rcases List.mem_append.1 hx with hx | hx
    · exact sched_lt n w h x hx
    · rw [List.mem_singleton] at hx
      subst hx
      exact Nat.mod_lt _ (by decide)
theorem wordBE_lt (l : List UInt8) (i : Nat) : wordBE l i < 4294967296 := by
  unfold wordBE
  have h0 := (l.getD (4 * i) 0).toNat_lt
  have h1 := (l.getD (4 * i + 1) 0).toNat_lt
  have h2 := (l.getD (4 * i + 2) 0).toNat_lt
  have h3 := (l.getD (4 * i + 3) 0).toNat_lt
  omega
theorem words16_lt (l : List UInt8) : ∀ x ∈ words16 l, x < 4294967296 := by
  intro x hx
  obtain ⟨i, _, rfl⟩ := List.mem_map.1 hx
  exact wordBE_lt l i
theorem get_some (l : List Nat) (i : Nat) (h : i < l.length) : l[i]? = some (l.getD i 0) := by
  rw [List.getD_eq_getElem?_getD, List.getElem?_eq_getElem h]
  rfl
theorem near_xor (y : Nat) (hy : y < 4294967296) : ∃ n : Nat, ls1 y = n ∧ (n : Int) < 4294967296 ∧ bits .xor .u32 ((rotr y 17 : Nat) : Int) ((rotr y 19 : Nat) : Int) = ((rotr y 17 ^^^ rotr y 19 : Nat) : Int) ∧ bits .xor .u32 ((rotr y 17 ^^^ rotr y 19 : Nat) : Int) ((y : Int) / 1024) = n := by
  have a := rotr_lt y 17 hy
  have b := rotr_lt y 19 hy
  have ab := Nat.xor_lt_two_pow (n := 32) a b
  have h := Nat.xor_lt_two_pow (n := 32) ab (show y / 1024 < 2 ^ 32 by omega)
  refine ⟨_, rfl, ?_, xor_u32 _ _ a b, ?_⟩
  · unfold ls1
    omega
  · rw [show (y : Int) / 1024 = ((y / 1024 : Nat) : Int) by omega, xor_u32 _ _ ab (by omega)]
    rfl
theorem far_xor (y : Nat) (hy : y < 4294967296) : ∃ n : Nat, ls0 y = n ∧ (n : Int) < 4294967296 ∧ bits .xor .u32 ((rotr y 7 : Nat) : Int) ((rotr y 18 : Nat) : Int) = ((rotr y 7 ^^^ rotr y 18 : Nat) : Int) ∧ bits .xor .u32 ((rotr y 7 ^^^ rotr y 18 : Nat) : Int) ((y : Int) / 8) = n := by
  have a := rotr_lt y 7 hy
  have b := rotr_lt y 18 hy
  have ab := Nat.xor_lt_two_pow (n := 32) a b
  have h := Nat.xor_lt_two_pow (n := 32) ab (show y / 8 < 2 ^ 32 by omega)
  refine ⟨_, rfl, ?_, xor_u32 _ _ a b, ?_⟩
  · unfold ls0
    omega
  · rw [show (y : Int) / 8 = ((y / 8 : Nat) : Int) by omega, xor_u32 _ _ ab (by omega)]
    rfl
set_option maxRecDepth 100000 in
set_option maxHeartbeats 1600000 in
theorem sched_any (p : ByteArray) (w : World) (hp : p.size = 64) :
    Calls Tryd.prog 61 #[.string p] w fun e w' => e = .returned (.agg (cellsU (schedGo 48 (words16 p.data.toList)))) ∧ Below w.heap.size w w' := by
  have HP := Lib.hid hp
  go_enter Tryd.func61, Tryd.ntmps61
  go_wp2
  rw [zero64]
  go_loopw [4, 5, 9] (fun _ _ s9 wr => ∃ k : Nat, k ≤ 16 ∧ s9 = .int .i64 k ∧ Row wr (w.heap.size + 1) (filled ((words16 p.data.toList).take k)) 115 ∧ Row wr w.heap.size (List.replicate 64 0) 115 ∧ Below w.heap.size w wr) (fun _ _ s9 _ => 16 - (Go.RowKit.intOf s9).toNat)
  case atStart => exact ⟨0, Nat.zero_le _, rfl, Row.newAt _ _ _ (by simp), (Row.new w _ _).alloc _, ((Below.refl _ _).alloc (Nat.le_refl _) _).alloc (by simp) _⟩
  case round =>
    obtain ⟨k, hk, rfl, h1, h2, hb⟩ := hrel
    have H1 := Lib.hid h1
    have H2 := Lib.hid h2
    have HB := Lib.hid hb
    clear h1 h2 hb
    by_cases hlt : k < 16
    · have hz : (k : Int) < 16 := by omega
      have c1 := H1.out.cell (filled_get (W := (words16 p.data.toList).take k) (i := k) (by rw [List.length_take]; omega) (by omega))
      have f1 := H1.out.frozen k
      have b0 : 4 * k < p.size := by omega
      have b1 : 4 * k + 1 < p.size := by omega
      have b2 : 4 * k + 2 < p.size := by omega
      have b3 : 4 * k + 3 < p.size := by omega
      obtain ⟨x0, e0, l0, i0⟩ := idx_byte p (4 * k) b0 (4 * (k : Int)) (by omega)
      obtain ⟨x1, e1, l1, i1⟩ := idx_byte p (4 * k + 1) b1 (4 * (k : Int) + 1) (by omega)
      obtain ⟨x2, e2, l2, i2⟩ := idx_byte p (4 * k + 2) b2 (4 * (k : Int) + 2) (by omega)
      obtain ⟨x3, e3, l3, i3⟩ := idx_byte p (4 * k + 3) b3 (4 * (k : Int) + 3) (by omega)
      have HE := Lib.hid (And.intro e0 (And.intro e1 (And.intro e2 e3)))
      clear b0 b1 b2 b3 e0 e1 e2 e3 hp
      go_wp2_with fail
      go_region
      all_goals (try go_wp2_with fail)
      all_goals
        go_roundw
        case rel =>
          refine ⟨k + 1, by omega, by go_num, ?_, (H2.out.setOther _ (by simp)).drew, (HB.out.setCell (by simp) _).drew⟩
          have hl : ((words16 p.data.toList).take k).length = k := by rw [List.length_take, words16_len]; omega
          have h := (H1.out.set k (wordBE p.data.toList k)).drew
          have hs := filled_set (W := (words16 p.data.toList).take k) (by omega) (wordBE p.data.toList k)
          rw [hl] at hs
          rw [hs, ← words16_take _ _ hlt] at h
          have e : wordBE p.data.toList k = x0 * 16777216 + x1 * 65536 + x2 * 256 + x3 := by
            obtain ⟨q0, q1, q2, q3⟩ := HE.out
            unfold wordBE
            rw [q0, q1, q2, q3]
          rw [e, ← or4 x0 x1 x2 x3 l0 l1 l2 l3] at h
          exact h
        case measure => simp [Go.RowKit.intOf]; omega
    · have hz : ¬ (k : Int) < 16 := by omega
      have e16 : k = 16 := by omega
      subst e16
      have HL : Hid (∀ x ∈ words16 p.data.toList, x < 4294967296) := Lib.hid (words16_lt _)
      have HW : Hid ((words16 p.data.toList).length = 16) := Lib.hid (words16_len _)
      have h1 := H1.out
      rw [List.take_of_length_le (by rw [HW.out]; exact Nat.le_refl _)] at h1
      obtain ⟨W0, hW0⟩ : ∃ W0, words16 p.data.toList = W0 := ⟨_, rfl⟩
      rw [hW0] at h1 HL HW
      have HW0 := Lib.hid hW0
      clear hW0
      have H1' := Lib.hid h1
      clear h1 H1
      go_wp2_with fail
      go_loopw [6, 7, 8] (fun s6 _ _ wr => ∃ i : Nat, 16 ≤ i ∧ i ≤ 64 ∧ s6 = .int .i64 i ∧ Row wr (w.heap.size + 1) (filled (schedGo (i - 16) W0)) 115 ∧ Row wr w.heap.size (List.replicate 64 0) 115 ∧ Below w.heap.size w wr) (fun s6 _ _ _ => 64 - (Go.RowKit.intOf s6).toNat)
      case atStart => exact ⟨16, by omega, by omega, rfl, H1'.out, H2.out, HB.out⟩
      case round =>
        clear H1' H2 HB
        obtain ⟨i, hi1, hi2, rfl, h1, h2, hb⟩ := hrel
        have H1 := Lib.hid h1
        have H2 := Lib.hid h2
        have HB := Lib.hid hb
        clear h1 h2 hb
        by_cases hlt : i < 64
        · have hz : (i : Int) < 64 := by omega
          have hlen : (schedGo (i - 16) W0).length = i := by rw [sched_len, HW.out]; omega
          have hall : ∀ j, j < i → (schedGo (i - 16) W0).getD j 0 < 4294967296 := fun j hj => sched_lt _ _ HL.out _ (List.mem_of_getElem? (get_some _ j (by omega)))
          obtain ⟨j2, hj2⟩ : ∃ j : Nat, (i : Int) - 2 = j := ⟨i - 2, by omega⟩
          obtain ⟨j7, hj7⟩ : ∃ j : Nat, (i : Int) - 7 = j := ⟨i - 7, by omega⟩
          obtain ⟨j15, hj15⟩ : ∃ j : Nat, (i : Int) - 15 = j := ⟨i - 15, by omega⟩
          obtain ⟨j16, hj16⟩ : ∃ j : Nat, (i : Int) - 16 = j := ⟨i - 16, by omega⟩
          obtain ⟨y2, hy2⟩ : ∃ y, (schedGo (i - 16) W0).getD j2 0 = y := ⟨_, rfl⟩
          obtain ⟨y7, hy7⟩ : ∃ y, (schedGo (i - 16) W0).getD j7 0 = y := ⟨_, rfl⟩
          obtain ⟨y15, hy15⟩ : ∃ y, (schedGo (i - 16) W0).getD j15 0 = y := ⟨_, rfl⟩
          obtain ⟨y16, hy16⟩ : ∃ y, (schedGo (i - 16) W0).getD j16 0 = y := ⟨_, rfl⟩
          have c2 := H1.out.cell (filled_at ((get_some _ j2 (by omega)).trans (congrArg some hy2)))
          have c7 := H1.out.cell (filled_at ((get_some _ j7 (by omega)).trans (congrArg some hy7)))
          have c15 := H1.out.cell (filled_at ((get_some _ j15 (by omega)).trans (congrArg some hy15)))
          have c16 := H1.out.cell (filled_at ((get_some _ j16 (by omega)).trans (congrArg some hy16)))
          have ci := H1.out.cell (filled_get (W := schedGo (i - 16) W0) (i := i) (by omega) hlt)
          have fi := H1.out.frozen i
          have l2 : y2 < 4294967296 := by rw [← hy2]; exact hall _ (by omega)
          have l7 : y7 < 4294967296 := by rw [← hy7]; exact hall _ (by omega)
          have l15 : y15 < 4294967296 := by rw [← hy15]; exact hall _ (by omega)
          have l16 : y16 < 4294967296 := by rw [← hy16]; exact hall _ (by omega)
          have r17 : ∀ W, Calls Tryd.prog 66 #[.int .u32 y2, .int .i64 (-17)] W fun e w' => e = .returned (.int .u32 (rotr y2 17 : Nat)) ∧ W = w' := fun W => rot_any y2 17 W l2 (by decide) (by decide)
          have r19 : ∀ W, Calls Tryd.prog 66 #[.int .u32 y2, .int .i64 (-19)] W fun e w' => e = .returned (.int .u32 (rotr y2 19 : Nat)) ∧ W = w' := fun W => rot_any y2 19 W l2 (by decide) (by decide)
          have r7 : ∀ W, Calls Tryd.prog 66 #[.int .u32 y15, .int .i64 (-7)] W fun e w' => e = .returned (.int .u32 (rotr y15 7 : Nat)) ∧ W = w' := fun W => rot_any y15 7 W l15 (by decide) (by decide)
          have r18 : ∀ W, Calls Tryd.prog 66 #[.int .u32 y15, .int .i64 (-18)] W fun e w' => e = .returned (.int .u32 (rotr y15 18 : Nat)) ∧ W = w' := fun W => rot_any y15 18 W l15 (by decide) (by decide)
          obtain ⟨n1, hn1, hn1l, x1, x1'⟩ := near_xor y2 l2
          obtain ⟨n0, hn0, hn0l, x0, x0'⟩ := far_xor y15 l15
          have l7z : (y7 : Int) < 4294967296 := by omega
          have l16z : (y16 : Int) < 4294967296 := by omega
          have HN : Hid (nextW (schedGo (i - 16) W0) = (y16 + y7 + n0 + n1) % 4294967296) := Lib.hid (by
            unfold nextW
            rw [hlen, show i - 16 = j16 by omega, show i - 7 = j7 by omega, show i - 15 = j15 by omega, show i - 2 = j2 by omega] at *
            rw [hy16, hy7, hy15, hy2, hn0, hn1])
          have HLen := Lib.hid hlen
          have HR17 := Lib.hid r17
          have HR19 := Lib.hid r19
          have HR7 := Lib.hid r7
          have HR18 := Lib.hid r18
          have l2z : (y2 : Int) < 4294967296 := by omega
          have l15z : (y15 : Int) < 4294967296 := by omega
          have q2 : (j2 : Int) < 64 := by omega
          have q7 : (j7 : Int) < 64 := by omega
          have q15 : (j15 : Int) < 64 := by omega
          have q16 : (j16 : Int) < 64 := by omega
          clear hlen hall hy2 hy7 hy15 hy16 l2 l7 l15 l16 hn1 hn0 r17 r19 r7 r18
          go_wp2_with fail
          go_region
          all_goals (go_wp2_with (go_at_call 66; (first | (with_reducible refine (HR17.out _).mono ?_) | (with_reducible refine (HR19.out _).mono ?_) | (with_reducible refine (HR7.out _).mono ?_) | (with_reducible refine (HR18.out _).mono ?_)); rintro e w' ⟨rfl, rfl⟩))
          all_goals go_region
          all_goals (try go_wp2_with fail)
          all_goals
            go_roundw
            case rel =>
              refine ⟨i + 1, by omega, by omega, by go_num, ?_, (H2.out.setOther _ (by simp)).drew.drew, ((HB.out.setCell (by simp) _).drew).drew⟩
              have h := (H1.out.set i ((y16 + y7 + n0 + n1) % 4294967296)).drew.drew
              have hs := filled_set (W := schedGo (i - 16) W0) (by rw [HLen.out]; exact hlt) ((y16 + y7 + n0 + n1) % 4294967296)
              rw [HLen.out] at hs
              rw [hs, ← HN.out, ← sched_end, HN.out, show i - 16 + 1 = i + 1 - 16 by omega, show (((y16 + y7 + n0 + n1) % 4294967296 : Nat) : Int) = ((n1 : Int) + y7 + n0 + y16) % 4294967296 by omega] at h
              exact h
            case measure => simp [Go.RowKit.intOf]; omega
        · have hz : ¬ (i : Int) < 64 := by omega
          have e64 : i = 64 := by omega
          subst e64
          have h1 := H1.out
          rw [filled_full (by rw [sched_len, HW.out])] at h1
          have H1' := Lib.hid h1
          have HLen : Hid ((schedGo 48 W0).length = 64) := Lib.hid (by rw [sched_len, HW.out])
          clear h1 H1
          go_wp2_with (first | (refine wpList_load_row rfl 115 _ rfl _ rfl 115 _ (0, 0) _ H1'.out Tryd.underlying115 rfl (by rw [cellsU_size, HLen.out]; kernel_rfl) ?_) | (refine wpList_store_row rfl 115 _ _ rfl _ _ rfl rfl 115 _ H2.out (by rw [cellsU_size, HLen.out]; kernel_rfl) (by rw [cellsU_size, cellsU_size, HLen.out]; rfl) (cellsU_one _) ?_))
          refine bodyPost_ret (v := .agg (cellsU (schedGo 48 W0))) ?_ rfl ⟨by rw [HW0.out], below_setRow HB.out (Nat.le_refl _) _⟩
          exact results_cell_row rfl _ _ w.heap.size 115 (cellsU (schedGo 48 W0)) (0, 0) _ rfl (H2.out.setRow (schedGo 48 W0)) Tryd.underlying115 rfl (by rw [cellsU_size, HLen.out]; kernel_rfl)
end HQ
end Go.Proofs.YtmpmmebmhffaeaaDoor
