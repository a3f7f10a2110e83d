/- Layer 4: the contract of the document's times. -/
import Derived.Test.YtmpmmebmhffaeaaDoorQHashNum
import Derived.BigQuiet
import Derived.Laws.OwnMore
set_option linter.all false
set_option maxRecDepth 100000
set_option maxHeartbeats 25600000
namespace Go.Proofs.YtmpmmebmhffaeaaDoor
open Go.RowKit Go.Lib
namespace HX
open HS HR

theorem info64 : ∃ i0, Tryd.prog.info? 105 = some i0 ∧ i0.zero = some (.int .u64 0) ∧ i0.size = 1 ∧ i0.bytes = 8 := by
  have h : (Tryd.prog.info? 105).map (fun i => (i.zero, i.size, i.bytes)) = some (some (.int .u64 0), 1, 8) := by kernel_rfl
  cases hq : Tryd.prog.info? 105 with
  | none => rw [hq] at h; cases h
  | some i0 =>
    rw [hq] at h
    simp only [Option.map_some, Option.some.injEq, Prod.mk.injEq] at h
    exact ⟨i0, rfl, h.1, h.2.1, h.2.2⟩
theorem wd_get {l : List Nat} {j x : Nat} (h : l[j]? = some x) : wd l j = x := by
  unfold wd
  rw [List.getD_eq_getElem?_getD, h]
  rfl
/-- A number's words in a block of the call's own. -/
structure Free64 (W : World) (B g : Nat) (l : List Nat) : Prop where
  base : B ≤ g
  lt : g < W.heap.size
  cells : WordsAt W g l
  free : ∀ j, j < l.length → W.frozen? ⟨g, j, none⟩ = false
theorem Free64.below {W W' : World} {B g : Nat} {l : List Nat} (h : Free64 W B g l) (hb : Below W.heap.size W W') : Free64 W' B g l :=
  ⟨h.base, Nat.lt_of_lt_of_le h.lt hb.size, fun j hj => (hb.cell (p := ⟨g, j, none⟩) h.lt).trans (h.cells j hj), fun j hj => (hb.frozen (p := ⟨g, j, none⟩) h.lt).trans (h.free j hj)⟩
theorem Free64.set {W : World} {B g : Nat} {l : List Nat} (h : Free64 W B g l) (i : Nat) (hi : i < l.length) (n : Nat) : Free64 (W.setCell ⟨g, i, none⟩ (.int .u64 (n : Nat))) B g (l.set i n) := by
  refine ⟨h.base, by have := h.lt; simpa using this, fun j hj => ?_, fun j hj => ?_⟩
  · rw [List.length_set] at hj
    by_cases hij : i = j
    · subst hij
      rw [wd_set_same l i n hi]
      exact World.cell?_setCell_same _ _ _ (h.cells i hi)
    · rw [wd_set_ne l i n j hij, World.cell?_setCell_other]
      · exact h.cells j hj
      · intro e
        cases e
        exact hij rfl
  · rw [World.frozen?_setCell]
    rw [List.length_set] at hj
    exact h.free j hj
theorem Free64.drewN {W : World} {B g : Nat} {l : List Nat} (h : Free64 W B g l) (n : Nat) : Free64 (W.drewN n) B g l := ⟨h.base, h.lt, h.cells, h.free⟩
theorem own64 {W : World} {B : Nat} {v : Value} {l : List Nat} (h : W.ownsRow B 105 1 v l.length (l.map fun x : Nat => Value.int .u64 x)) (h0 : 0 < l.length) : ∃ g cap, v = .slice (some ⟨g, 0, none⟩) l.length cap ∧ Free64 W B g l := by
  rcases h.2 with ⟨_, h1⟩ | ⟨g, cap, cur, hv, hg, hrow, hle, _, hcs, htake⟩
  · omega
  · refine ⟨g, cap, hv, hg, (Array.getElem?_eq_some_iff.1 hrow).1, fun j hj => ?_, fun j hj => frozen_of_row W g j cur _ hrow⟩
    have hx : l[j]? = some (wd l j) := by
      rw [List.getElem?_eq_getElem hj]
      congr 1
      exact (wd_get (List.getElem?_eq_getElem hj)).symm
    have hc := World.ownsRow.cells h (g := g) (by rw [hv]; rfl) j (.int .u64 (wd l j : Nat)) (by rw [List.getElem?_map, hx]; rfl)
    have hadd : (⟨g, 0, none⟩ : Addr).add j = ⟨g, j, none⟩ := by unfold Addr.add; split <;> simp_all
    rwa [hadd] at hc
/-- Noughts, made. -/
theorem made64 (w : World) (n : Nat) (hn : n ≤ 1000) : ∃ w', (Instr.makeSlice 102 (.int .i64 (n : Int)) (.int .i64 (n : Int))).run Tryd.prog w = .ok (.slice (some ⟨w.heap.size, 0, none⟩) n n) w' ∧
    w'.ownsRow w.heap.size 105 1 (.slice (some ⟨w.heap.size, 0, none⟩) n n) n ((List.replicate n 0).map fun x : Nat => Value.int .u64 x) ∧ Below w.heap.size w w' := by
  obtain ⟨i0, hi, hz0, hz1, hz2⟩ := info64
  obtain ⟨w', hr, ho, hg⟩ := run_make_full (P := Tryd.prog) w w.heap.size 102 105 i0 (.int .u64 0) 1 Tryd.underlying102 hi hz0 hz1 .i64 .i64 n (by rw [hz2]; omega) (by unfold maxLen; omega) (Nat.le_refl _)
  refine ⟨w', hr, ?_, (Below.refl _ _).grown hg (Nat.le_refl _) (fun k hk => by cases hk)⟩
  rw [Nat.mul_one, show (Value.int IntKind.u64 0).cells = #[.int .u64 0] from rfl, toList_madeCells_one] at ho
  rw [List.map_replicate]
  exact ho
/-- What the sum so far is, at the head of each inner round. -/
def TIn (w : World) (g n i lb : Nat) (A : Nat) (ai : Nat) (b : List Nat) (s7 s8 : Value) (wr : World) : Prop :=
  ∃ (j c : Nat) (V : List Nat), s8 = .int .i64 j ∧ s7 = .int .u64 c ∧ c < 4294967296 ∧ j ≤ lb + 1 ∧ (j ≤ lb ∨ c = 0) ∧ Free64 wr w.heap.size g V ∧ V.length = n ∧ (∀ m, wd V m < 4294967296) ∧
    valP V n + c * (4294967296 ^ i * 4294967296 ^ j) = A + ai * valP b j * 4294967296 ^ i ∧ (∀ m, i + lb ≤ m → i + j ≤ m → wd V m = 0) ∧ Below w.heap.size w wr
def TOut (w : World) (g n lb : Nat) (a b : List Nat) (s6 : Value) (wr : World) : Prop :=
  ∃ (i : Nat) (V : List Nat), i ≤ a.length ∧ s6 = .int .i64 i ∧ Free64 wr w.heap.size g V ∧ V.length = n ∧ (∀ m, wd V m < 4294967296) ∧ valP V n = valP a i * valP b lb ∧ (∀ m, i + lb ≤ m → wd V m = 0) ∧ Below w.heap.size w wr
def NumPost (v : Nat) (n : Nat) (w : World) (r : Ending) (w' : World) : Prop :=
  ∃ (g c : Nat) (V : List Nat), r = .returned (.slice (some ⟨g, 0, none⟩) n c) ∧ V.length = n ∧ WordsAt w' g V ∧ g < w'.heap.size ∧ (∀ j, wd V j < 4294967296) ∧ valP V n = v ∧ Below w.heap.size w w'
set_option maxRecDepth 100000 in
set_option maxHeartbeats 1600000 in
theorem rtimes_any (ga ca gb cb : Nat) (a b : List Nat) (w : World) (ha : WordsAt w ga a) (hga : ga < w.heap.size) (hb : WordsAt w gb b) (hgb : gb < w.heap.size) (hla : a.length ≤ 100) (hlb : b.length ≤ 100) (haw : ∀ j, wd a j < 4294967296) (hbw : ∀ j, wd b j < 4294967296) :
    Calls Tryd.prog 64 #[.slice (some ⟨ga, 0, none⟩) a.length ca, .slice (some ⟨gb, 0, none⟩) b.length cb] w (NumPost (valP a a.length * valP b b.length) (a.length + b.length + 1) w) := by
  obtain ⟨w1, hmk, ho, hb1⟩ := made64 w (a.length + b.length + 1) (by omega)
  obtain ⟨lb, hlb'⟩ : ∃ lb, b.length = lb := ⟨_, rfl⟩
  obtain ⟨la, hla'⟩ : ∃ la, a.length = la := ⟨_, rfl⟩
  rw [hla', hlb'] at ho hmk ⊢
  rw [hla'] at hla
  rw [hlb'] at hlb
  obtain ⟨g0, c0, hg0, hF0⟩ := own64 (l := List.replicate (la + lb + 1) 0) (by rw [List.length_replicate]; exact ho) (by rw [List.length_replicate]; omega)
  have hg1 : g0 = w.heap.size := by
    rw [List.length_replicate] at hg0
    cases hg0
    rfl
  subst hg1
  rw [show ((la + lb + 1 : Nat) : Int) = (la : Int) + lb + 1 by omega] at hmk
  have HA := Lib.hid ha
  have HB' := Lib.hid hb
  have HAW := Lib.hid haw
  have HBW := Lib.hid hbw
  have HLA := Lib.hid hla'
  have HLB := Lib.hid hlb'
  have HF := Lib.hid hF0
  have HBl := Lib.hid hb1
  clear ha hb haw hbw hla' hlb' hF0 hb1 ho hg0
  go_enter Tryd.func64, Tryd.ntmps64
  go_wp2
  go_loopw [6, 7, 8, 9] (fun s6 _ _ _ wr => TOut w w.heap.size (la + lb + 1) lb a b s6 wr) (fun s6 _ _ _ _ => la - (Go.RowKit.intOf s6).toNat)
  case atStart => exact ⟨0, _, Nat.zero_le _, rfl, HF.out, List.length_replicate, fun m => by rw [wd_zero]; decide, by rw [valP_zero _ (wd_zero _)]; simp [valP], fun m _ => wd_zero _ m, HBl.out⟩
  case round =>
    clear HF HBl
    obtain ⟨i, V, hi, rfl, hF, hVl, hVw, hval, hzero, hb⟩ := hrel
    rw [HLA.out] at hi
    have HF := Lib.hid hF
    have HVl := Lib.hid hVl
    have HVw := Lib.hid hVw
    have HVal := Lib.hid hval
    have HZ := Lib.hid hzero
    have HBl := Lib.hid hb
    clear hF hVl hVw hval hzero hb
    by_cases hlt : i < la
    · have hz : (i : Int) < la := by omega
      go_wp2_with fail
      go_loopw [7, 8, 9] (fun s7 s8 _ wr => TIn w w.heap.size (la + lb + 1) i lb (valP a i * valP b lb) (wd a i) b s7 s8 wr) (fun _ s8 _ _ => lb + 2 - (Go.RowKit.intOf s8).toNat)
      case atStart => exact ⟨0, 0, V, rfl, rfl, by decide, by omega, .inl (Nat.zero_le _), HF.out, HVl.out, HVw.out, by rw [HVal.out]; simp [valP], fun m h1 _ => HZ.out m h1, HBl.out⟩
      case round =>
        clear HF HVl HVw HVal HZ HBl
        obtain ⟨j, c, V, rfl, rfl, hc, hj, hjc, hF, hVl, hVw, hval, hzero, hb⟩ := hrel
        have HF := Lib.hid hF
        have HVl := Lib.hid hVl
        have HVw := Lib.hid hVw
        have HVal := Lib.hid hval
        have HZ := Lib.hid hzero
        have HBl := Lib.hid hb
        clear hF hVl hVw hval hzero hb
        have hcz : (c : Int) < 4294967296 := by omega
        have hij : i + j < V.length := by rw [HVl.out]; omega
        have HIJ := Lib.hid hij
        have hijz : (i : Int) + j < (la : Int) + lb + 1 := by omega
        have hij0 : (0 : Int) ≤ (i : Int) + j := by omega
        obtain ⟨x, hx⟩ : ∃ x, wd V (i + j) = x := ⟨_, rfl⟩
        have hxl : x < 4294967296 := by rw [← hx]; exact HVw.out _
        have hxz : (x : Int) < 4294967296 := by omega
        have cV := HF.out.cells (i + j) hij
        rw [hx] at cV
        have HX := Lib.hid hx
        by_cases hjl : j < lb
        · have hjz : (j : Int) < lb := by omega
          obtain ⟨p, hp⟩ : ∃ p, wd a i = p := ⟨_, rfl⟩
          obtain ⟨q, hq⟩ : ∃ q, wd b j = q := ⟨_, rfl⟩
          have hpl : p < 4294967296 := by rw [← hp]; exact HAW.out _
          have hql : q < 4294967296 := by rw [← hq]; exact HBW.out _
          have cA : wr.cell? ⟨ga, i, none⟩ = some (.int .u64 (p : Nat)) := by
            rw [← hp]
            exact (HBl.out.cell (p := ⟨ga, i, none⟩) hga).trans (HA.out i (by rw [HLA.out]; exact hlt))
          have cB : wr.cell? ⟨gb, j, none⟩ = some (.int .u64 (q : Nat)) := by
            rw [← hq]
            exact (HBl.out.cell (p := ⟨gb, j, none⟩) hgb).trans (HB'.out j (by rw [HLB.out]; exact hjl))
          have hPle : p * q ≤ 4294967295 * 4294967295 := Nat.mul_le_mul (by omega) (by omega)
          obtain ⟨P, hP⟩ : ∃ P, p * q = P := ⟨_, rfl⟩
          have hPz : (p : Int) * (q : Int) = (P : Nat) := by rw [← hP, Int.natCast_mul]
          have hPb : (P : Int) ≤ 18446744065119617025 := by omega
          have HP := Lib.hid hP
          have Hp := Lib.hid hp
          have Hq := Lib.hid hq
          clear hx hxl hp hq hpl hql hPle hP hij
          go_wp2_with fail
          go_quiet (fail)
          have HF5 : Hid (Free64 (wr.drewN nq) w.heap.size w.heap.size V) := Lib.hid (HF.out.drewN nq)
          have HB5 : Hid (Below w.heap.size w (wr.drewN nq)) := Lib.hid ⟨HBl.out.os, HBl.out.tape, HBl.out.output, HBl.out.size, HBl.out.block⟩
          clear cV cA cB
          generalize wr.drewN nq = w5 at HF5 HB5 ⊢
          have cV := HF5.out.cells (i + j) HIJ.out
          have fV := HF5.out.free (i + j) HIJ.out
          rw [HX.out] at cV
          go_wp2_with fail
          go_roundw
          case rel =>
            have hset := HF5.out.set (i + j) HIJ.out ((x + c + P) % 4294967296)
            have hv := valP_set V (i + j) ((x + c + P) % 4294967296) HIJ.out (la + lb + 1) (by rw [← HVl.out]; exact HIJ.out)
            rw [HX.out, Nat.pow_add] at hv
            rw [show (((x + c + P) % 4294967296 : Nat) : Int) = ((x : Int) + c + P) % 4294967296 by omega] at hset
            refine ⟨j + 1, (x + c + P) / 4294967296, V.set (i + j) ((x + c + P) % 4294967296), by go_num, by go_num, by omega, by omega, .inl (by omega), hset, by rw [List.length_set]; exact HVl.out, fun m => ?_, ?_, fun m h1 h2 => ?_, HB5.out.setCell (Nat.le_refl _) _⟩
            · by_cases hm : i + j = m
              · rw [← hm, wd_set_same _ _ _ HIJ.out]; exact Nat.mod_lt _ (by decide)
              · rw [wd_set_ne _ _ _ _ hm]; exact HVw.out m
            · have ms := mul_step (HVal.out) hv (show x + c + P = x + c + wd a i * q by rw [Hp.out, HP.out])
              have eb : valP b (j + 1) = valP b j + q * 4294967296 ^ j := by rw [valP, Hq.out]
              have ep : 4294967296 ^ i * 4294967296 ^ (j + 1) = 4294967296 ^ i * 4294967296 ^ j * 4294967296 := by rw [Nat.pow_succ, ← Nat.mul_assoc]
              rw [eb, ep]
              exact ms
            · rw [wd_set_ne _ _ _ _ (by omega)]
              exact HZ.out m h1 (by omega)
          case measure => simp [Go.RowKit.intOf]; omega
        · have hjz : ¬ (j : Int) < lb := by omega
          have fV := HF.out.free (i + j) hij
          by_cases hc0 : c = 0
          · subst hc0
            have hVB : Hid (valP b j = valP b lb) := Lib.hid (by rw [← HLB.out]; exact valP_len b j (by rw [HLB.out]; omega))
            clear hx hxl hij cV fV
            go_wp2_with fail
            go_roundw
            case rel =>
              have hv := HVal.out
              rw [Nat.zero_mul, Nat.add_zero, hVB.out] at hv
              refine ⟨i + 1, V, by rw [HLA.out]; omega, by go_num, HF.out, HVl.out, HVw.out, ?_, fun m h1 => HZ.out m (by omega) (by omega), HBl.out⟩
              rw [hv, valP, Nat.add_mul]
              congr 1
              rw [Nat.mul_assoc, Nat.mul_assoc, Nat.mul_comm (valP b lb)]
            case measure => simp [Go.RowKit.intOf]; omega
          · have hcp : (0 : Int) < c := by omega
            have hj2 : j = lb := by omega
            have hx0 : x = 0 := by rw [← hx]; exact HZ.out _ (by omega) (by omega)
            subst hx0
            have hcm : (c : Int) % 4294967296 = c := by omega
            have hcd : (c : Int) / 4294967296 = 0 := by omega
            have HJ2 := Lib.hid hj2
            have HC := Lib.hid hc
            clear hx hxl hij hj2 hcz hc hxz
            go_wp2_with fail
            go_roundw
            case rel =>
              have hset := HF.out.set (i + j) HIJ.out c
              have hv := valP_set V (i + j) c HIJ.out (la + lb + 1) (by have := HJ2.out; omega)
              rw [HX.out, Nat.zero_mul, Nat.add_zero, Nat.pow_add] at hv
              refine ⟨j + 1, 0, V.set (i + j) c, by go_num, by go_num, by decide, by have := HJ2.out; omega, .inr rfl, hset, by rw [List.length_set]; exact HVl.out, fun m => ?_, ?_, fun m h1 h2 => ?_, HBl.out.setCell (Nat.le_refl _) _⟩
              · by_cases hm : i + j = m
                · rw [← hm, wd_set_same _ _ _ HIJ.out]; exact HC.out
                · rw [wd_set_ne _ _ _ _ hm]; exact HVw.out m
              · rw [Nat.zero_mul, Nat.add_zero, hv, HVal.out]
                have e : valP b (j + 1) = valP b j := by rw [valP, show wd b j = 0 from wd_out (by rw [HLB.out, HJ2.out]; exact Nat.le_refl _)]; omega
                rw [e]
              · rw [wd_set_ne _ _ _ _ (by omega)]
                exact HZ.out m h1 (by omega)
            case measure => simp [Go.RowKit.intOf]; omega
    · have hz : ¬ (i : Int) < la := by omega
      have ei : i = la := by omega
      subst ei
      go_wp2_with fail
      go_ret
      exact ⟨w.heap.size, _, V, rfl, HVl.out, HF.out.cells, HF.out.lt, HVw.out, by rw [HVal.out], HBl.out⟩
end HX
end Go.Proofs.YtmpmmebmhffaeaaDoor
