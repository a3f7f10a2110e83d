/- Layer 4: the contract of the program's behind: the state behind one block. -/
import Derived.Test.YtmpmmebmhffaeaaDoorQHashPlus
import Derived.Test.YtmpmmebmhffaeaaDoorQHashSched
import Derived.BigQuiet
set_option linter.all false
set_option maxRecDepth 100000
set_option maxHeartbeats 25600000
namespace Go.Proofs.YtmpmmebmhffaeaaDoor
open Go.RowKit Go.Lib
namespace HQ
open HP HS HR

def stL (v : St) : List Nat := match v with | (a, b, c, d, e, f, g, h) => [a, b, c, d, e, f, g, h]
theorem stL_len (v : St) : (stL v).length = 8 := by
  obtain ⟨a, b, c, d, e, f, g, h⟩ := v
  rfl
theorem not_u32 (e : Nat) (he : e < 4294967296) : bits .xor .u32 IntKind.u32.max (e : Int) = ((4294967295 - e : Nat) : Int) := by
  have h : (4294967295 : Nat) ^^^ e = 4294967295 - e := by
    apply Nat.eq_of_testBit_eq
    intro i
    rw [Nat.testBit_xor, show (4294967295 : Nat) - e = 2 ^ 32 - (e + 1) by omega, Nat.testBit_two_pow_sub_succ (by omega), show (4294967295 : Nat) = 2 ^ 32 - 1 by decide, Nat.testBit_two_pow_sub_one]
    by_cases hi : i < 32
    · simp [hi]
    · have : e.testBit i = false := Nat.testBit_lt_two_pow (Nat.lt_of_lt_of_le (show e < 2 ^ 32 by omega) (Nat.pow_le_pow_right (by decide) (by omega)))
      simp [hi, this]
  have h2 := xor_u32 4294967295 e (by decide) he
  rw [h] at h2
  exact h2
theorem rounds_snoc : ∀ (ks ws : List Nat) (v : St) (k w : Nat), ks.length = ws.length → rounds v (ks ++ [k]) (ws ++ [w]) = roundStep (rounds v ks ws) k w
  | [], [], _, _, _, _ => rfl
  | [], _ :: _, _, _, _, h => by simp at h
  | _ :: _, [], _, _, _, h => by simp at h
  | x :: ks, y :: ws, v, k, w, h => by
    rw [List.length_cons, List.length_cons] at h
    exact rounds_snoc ks ws (roundStep v x y) k w (by omega)
theorem round_lt : ∀ x ∈ roundK, x < 4294967296 := by decide +kernel
theorem bs1_lt {e : Nat} (h : e < 4294967296) : bs1 e < 4294967296 := Nat.xor_lt_two_pow (n := 32) (Nat.xor_lt_two_pow (n := 32) (rotr_lt e 6 h) (rotr_lt e 11 h)) (rotr_lt e 25 h)
theorem bs0_lt {a : Nat} (h : a < 4294967296) : bs0 a < 4294967296 := Nat.xor_lt_two_pow (n := 32) (Nat.xor_lt_two_pow (n := 32) (rotr_lt a 2 h) (rotr_lt a 13 h)) (rotr_lt a 22 h)
theorem and_lt32 {a : Nat} (b : Nat) (h : a < 4294967296) : a &&& b < 4294967296 := Nat.lt_of_le_of_lt Nat.and_le_left h
theorem ch_ops {e f g : Nat} (he : e < 4294967296) (hf : f < 4294967296) (hg : g < 4294967296) :
    ∃ n : Nat, n = chN e f g ∧ (n : Int) < 4294967296 ∧ bits .and .u32 (e : Int) (f : Int) = ((e &&& f : Nat) : Int) ∧ bits .xor .u32 IntKind.u32.max (e : Int) = ((4294967295 - e : Nat) : Int) ∧ bits .and .u32 ((4294967295 - e : Nat) : Int) (g : Int) = (((4294967295 - e) &&& g : Nat) : Int) ∧ bits .xor .u32 ((e &&& f : Nat) : Int) (((4294967295 - e) &&& g : Nat) : Int) = n := by
  have h1 := and_lt32 f he
  have h2 := and_lt32 g (show 4294967295 - e < 4294967296 by omega)
  have h3 := Nat.xor_lt_two_pow (n := 32) h1 h2
  refine ⟨_, rfl, ?_, and_u32 _ _ he hf, not_u32 e he, and_u32 _ _ (by omega) hg, xor_u32 _ _ h1 h2⟩
  unfold chN
  omega
theorem maj_ops {a b c : Nat} (ha : a < 4294967296) (hb : b < 4294967296) (hc : c < 4294967296) :
    ∃ n : Nat, n = majN a b c ∧ (n : Int) < 4294967296 ∧ bits .and .u32 (a : Int) (b : Int) = ((a &&& b : Nat) : Int) ∧ bits .and .u32 (a : Int) (c : Int) = ((a &&& c : Nat) : Int) ∧ bits .and .u32 (b : Int) (c : Int) = ((b &&& c : Nat) : Int) ∧ bits .xor .u32 ((a &&& b : Nat) : Int) ((a &&& c : Nat) : Int) = (((a &&& b) ^^^ (a &&& c) : Nat) : Int) ∧ bits .xor .u32 (((a &&& b) ^^^ (a &&& c) : Nat) : Int) ((b &&& c : Nat) : Int) = n := by
  have h1 := and_lt32 b ha
  have h2 := and_lt32 c ha
  have h3 := and_lt32 c hb
  have h12 := Nat.xor_lt_two_pow (n := 32) h1 h2
  have h4 := Nat.xor_lt_two_pow (n := 32) h12 h3
  refine ⟨_, rfl, ?_, and_u32 _ _ ha hb, and_u32 _ _ ha hc, and_u32 _ _ hb hc, xor_u32 _ _ h1 h2, xor_u32 _ _ h12 h3⟩
  unfold majN
  omega
/-- All eight are words. -/
def Words (v : St) : Prop := ∀ x ∈ stL v, x < 4294967296
set_option maxRecDepth 100000 in
set_option maxHeartbeats 1600000 in
theorem behind_any (a b c d e f g h : Nat) (p : ByteArray) (w : World) (he : Env w) (hp : p.size = 64) (hl : ∀ x ∈ [a, b, c, d, e, f, g, h], x < 4294967296) :
    Calls Tryd.prog 58 #[.agg (cellsU [a, b, c, d, e, f, g, h]), .string p] w fun r w' => r = .returned (.agg (cellsU (stL (blockN (a, b, c, d, e, f, g, h) p.data.toList)))) ∧ Below w.heap.size w w' := by
  have cS := Lib.hid (fun W => sched_any p W hp)
  go_enter Tryd.func58, Tryd.ntmps58
  go_wp2_with fail
  rw [zero8]
  have HB0 : Hid (Below w.heap.size w ((w.alloc (Obj.cells (cellsU [a, b, c, d, e, f, g, h]) 99)).alloc (Obj.cells (cellsU (List.replicate 8 0)) 99))) := Lib.hid (((Below.refl _ _).alloc (Nat.le_refl _) _).alloc (by simp) _)
  refine (cS.out _).mono ?_
  rintro r w2 ⟨rfl, hb⟩
  have R1 := Lib.hid (((Row.new w [a, b, c, d, e, f, g, h] 99).alloc (Obj.cells (cellsU (List.replicate 8 0)) 99)).below hb (by simp; omega))
  have R2 := Lib.hid ((Row.newAt (w.alloc (Obj.cells (cellsU [a, b, c, d, e, f, g, h]) 99)) (List.replicate 8 0) 99 (g := w.heap.size + 1) (by simp)).below hb (by simp))
  have HB := Lib.hid (Below.trans HB0.out (hb.mono HB0.out.size))
  have hsz : w.heap.size + 2 ≤ w2.heap.size := by have := hb.size; simp at this; omega
  have HSz := Lib.hid hsz
  clear hb HB0 hsz
  obtain ⟨L, hL⟩ : ∃ L, schedGo 48 (words16 p.data.toList) = L := ⟨_, rfl⟩
  have hLl : L.length = 64 := by rw [← hL, sched_len, words16_len]
  have hLt : ∀ x ∈ L, x < 4294967296 := by rw [← hL]; exact sched_lt _ _ (words16_lt _)
  rw [hL]
  have HL := Lib.hid hL
  have HLl := Lib.hid hLl
  have HLt := Lib.hid hLt
  clear hL hLl hLt
  have R1' := Lib.hid (R1.out.alloc (Obj.cells (cellsU L) 115))
  have R2' := Lib.hid (R2.out.alloc (Obj.cells (cellsU L) 115))
  have R3' := Lib.hid (Row.new w2 L 115)
  have HB' := Lib.hid (HB.out.alloc (by have := HSz.out; omega) (Obj.cells (cellsU L) 115))
  go_wp2_with (refine wpList_store_row rfl 115 _ _ rfl w2.heap.size (cellsU L) rfl rfl 115 _ (heap_alloc_new w2 _) (by rw [cellsU_size, HLl.out]; kernel_rfl) (by rw [cellsU_size, HLl.out]; rfl) (cellsU_one _) ?_; rw [World.setRow_alloc_new])
  obtain ⟨W1, hW1⟩ : ∃ W1, w2.alloc (Obj.cells (cellsU L) 115) = W1 := ⟨_, rfl⟩
  obtain ⟨G, hG⟩ : ∃ G, w2.heap.size = G := ⟨_, rfl⟩
  rw [hW1] at R1' R2' R3' HB'
  rw [hG] at R3' HSz
  rw [hW1, hG]
  clear hW1 hG R1 R2 HB
  have c0 : W1.cell? ⟨w.heap.size, 0, none⟩ = some (.int .u32 (a : Nat)) := R1'.out.cell rfl
  have c1 : W1.cell? ⟨w.heap.size, 1, none⟩ = some (.int .u32 (b : Nat)) := R1'.out.cell rfl
  have c2 : W1.cell? ⟨w.heap.size, 2, none⟩ = some (.int .u32 (c : Nat)) := R1'.out.cell rfl
  have c3 : W1.cell? ⟨w.heap.size, 3, none⟩ = some (.int .u32 (d : Nat)) := R1'.out.cell rfl
  have c4 : W1.cell? ⟨w.heap.size, 4, none⟩ = some (.int .u32 (e : Nat)) := R1'.out.cell rfl
  have c5 : W1.cell? ⟨w.heap.size, 5, none⟩ = some (.int .u32 (f : Nat)) := R1'.out.cell rfl
  have c6 : W1.cell? ⟨w.heap.size, 6, none⟩ = some (.int .u32 (g : Nat)) := R1'.out.cell rfl
  have c7 : W1.cell? ⟨w.heap.size, 7, none⟩ = some (.int .u32 (h : Nat)) := R1'.out.cell rfl
  have HE := Lib.hid (he.below HB'.out)
  have HEnv := Lib.hid he
  have Hl := Lib.hid hl
  clear he hl
  dsimp only [Act.put]
  go_region_held3 (fun w' => w'.cell? ⟨w.heap.size, 0, none⟩ = some (.int .u32 (a : Nat)) ∧ w'.cell? ⟨w.heap.size, 1, none⟩ = some (.int .u32 (b : Nat)) ∧ w'.cell? ⟨w.heap.size, 2, none⟩ = some (.int .u32 (c : Nat)) ∧ w'.cell? ⟨w.heap.size, 3, none⟩ = some (.int .u32 (d : Nat)) ∧ w'.cell? ⟨w.heap.size, 4, none⟩ = some (.int .u32 (e : Nat)) ∧ w'.cell? ⟨w.heap.size, 5, none⟩ = some (.int .u32 (f : Nat)) ∧ w'.cell? ⟨w.heap.size, 6, none⟩ = some (.int .u32 (g : Nat)) ∧ w'.cell? ⟨w.heap.size, 7, none⟩ = some (.int .u32 (h : Nat))) (exact ⟨c0, c1, c2, c3, c4, c5, c6, c7⟩) (fail)
  have c1' := Lib.hid R1'.out.drew
  have c2' := Lib.hid R2'.out.drew
  have c3' := Lib.hid R3'.out.drew
  have hb' := Lib.hid HB'.out.drew
  clear c0 c1 c2 c3 c4 c5 c6 c7 R1' R2' R3' HB' HE
  go_wp2_with fail
  go_loopw [6, 7, 8, 9, 10, 11, 12, 13, 14, 15, 16, 35] (fun s6 s7 s8 s9 s10 s11 s12 s13 _ _ _ s35 wr => ∃ k a' b' c' d' e' f' g' h' : Nat, k ≤ 64 ∧ s35 = .int .i64 k ∧ s6 = .int .u32 a' ∧ s7 = .int .u32 b' ∧ s8 = .int .u32 c' ∧ s9 = .int .u32 d' ∧ s10 = .int .u32 e' ∧ s11 = .int .u32 f' ∧ s12 = .int .u32 g' ∧ s13 = .int .u32 h' ∧ rounds (a, b, c, d, e, f, g, h) (roundK.take k) (L.take k) = (a', b', c', d', e', f', g', h') ∧ Words (a', b', c', d', e', f', g', h') ∧ Row wr w.heap.size [a, b, c, d, e, f, g, h] 99 ∧ Row wr (w.heap.size + 1) (List.replicate 8 0) 99 ∧ Row wr G L 115 ∧ Below w.heap.size w wr) (fun _ _ _ _ _ _ _ _ _ _ _ s35 _ => 64 - (Go.RowKit.intOf s35).toNat)
  case atStart => exact ⟨0, a, b, c, d, e, f, g, h, Nat.zero_le _, rfl, rfl, rfl, rfl, rfl, rfl, rfl, rfl, rfl, rfl, Hl.out, c1'.out, c2'.out, c3'.out, hb'.out⟩
  case round =>
    clear c1' c2' c3' hb'
    obtain ⟨k, a', b', c', d', e', f', g', h', hk, rfl, rfl, rfl, rfl, rfl, rfl, rfl, rfl, rfl, hr, hw, h1, h2, h3, hb⟩ := hrel
    have H1 := Lib.hid h1
    have HR := Lib.hid hr
    have H2 := Lib.hid h2
    have H3 := Lib.hid h3
    have HB := Lib.hid hb
    have HWd := Lib.hid hw
    clear hr h1 h2 h3 hb hw
    by_cases hlt : k < 64
    · have hz : (k : Int) < 64 := by omega
      have la : a' < 4294967296 := HWd.out _ (by simp [stL])
      have lb : b' < 4294967296 := HWd.out _ (by simp [stL])
      have lc : c' < 4294967296 := HWd.out _ (by simp [stL])
      have ld : d' < 4294967296 := HWd.out _ (by simp [stL])
      have le : e' < 4294967296 := HWd.out _ (by simp [stL])
      have lf : f' < 4294967296 := HWd.out _ (by simp [stL])
      have lg : g' < 4294967296 := HWd.out _ (by simp [stL])
      have lh : h' < 4294967296 := HWd.out _ (by simp [stL])
      obtain ⟨x, hx⟩ : ∃ x, L[k]? = some x := ⟨L[k]'(by rw [HLl.out]; exact hlt), List.getElem?_eq_getElem _⟩
      have lx : (x : Int) < 4294967296 := by have := HLt.out x (List.mem_of_getElem? hx); omega
      obtain ⟨q, hq⟩ : ∃ q, roundK.getD k 0 = q := ⟨_, rfl⟩
      have hqs : roundK[k]? = some q := by rw [← hq]; exact get_some _ _ hlt
      have lq : (q : Int) < 4294967296 := by have := round_lt q (List.mem_of_getElem? hqs); omega
      have cx := H3.out.cell hx
      have cq := (HEnv.out.below HB.out).rnd k hlt
      rw [hq] at cq
      obtain ⟨m1, hm1, lm1⟩ : ∃ m, m = bs1 e' ∧ m < 4294967296 := ⟨_, rfl, bs1_lt le⟩
      obtain ⟨m0, hm0, lm0⟩ : ∃ m, m = bs0 a' ∧ m < 4294967296 := ⟨_, rfl, bs0_lt la⟩
      have cM1 : ∀ W, Calls Tryd.prog 62 #[.int .u32 e', .int .i64 6, .int .i64 11, .int .i64 25] W fun r w' => r = .returned (.int .u32 (m1 : Nat)) ∧ W = w' := fun W => by rw [hm1]; exact mix_any e' 6 11 25 W le (by decide) (by decide) (by decide)
      have cM0 : ∀ W, Calls Tryd.prog 62 #[.int .u32 a', .int .i64 2, .int .i64 13, .int .i64 22] W fun r w' => r = .returned (.int .u32 (m0 : Nat)) ∧ W = w' := fun W => by rw [hm0]; exact mix_any a' 2 13 22 W la (by decide) (by decide) (by decide)
      have HM1 := Lib.hid cM1
      have HM0 := Lib.hid cM0
      obtain ⟨ch, hch, lch, x1, x2, x3, x4⟩ := ch_ops le lf lg
      obtain ⟨mj, hmj, lmj, y1, y2, y3, y4, y5⟩ := maj_ops la lb lc
      have HS : Hid (roundStep (a', b', c', d', e', f', g', h') q x = (((h' + m1 + ch + q + x) % 4294967296 + (m0 + mj) % 4294967296) % 4294967296, a', b', c', (d' + (h' + m1 + ch + q + x) % 4294967296) % 4294967296, e', f', g')) := Lib.hid (by rw [hm1, hm0, hch, hmj]; rfl)
      have HN : Hid (rounds (a, b, c, d, e, f, g, h) (roundK.take (k + 1)) (L.take (k + 1)) = roundStep (a', b', c', d', e', f', g', h') q x) := Lib.hid (by
        rw [List.take_add_one, List.take_add_one, hqs, hx, ← HR.out]
        exact rounds_snoc _ _ _ _ _ (by rw [List.length_take, List.length_take, HLl.out]; rfl))
      have lm1z : (m1 : Int) < 4294967296 := by omega
      have lm0z : (m0 : Int) < 4294967296 := by omega
      have laz : (a' : Int) < 4294967296 := by omega
      have lbz : (b' : Int) < 4294967296 := by omega
      have lcz : (c' : Int) < 4294967296 := by omega
      have ldz : (d' : Int) < 4294967296 := by omega
      have lez : (e' : Int) < 4294967296 := by omega
      have lfz : (f' : Int) < 4294967296 := by omega
      have lgz : (g' : Int) < 4294967296 := by omega
      have lhz : (h' : Int) < 4294967296 := by omega
      clear cM1 cM0 hm1 hm0 lm1 lm0 la lb lc ld le lf lg lh hch hmj hqs hq hx
      go_wp2_with fail
      go_quiet ((go_at_call 62; exact Calls.quiet_of_same ((HM1.out _).mono fun r w' h => ⟨h.1, h.2.symm⟩)))
      rename_i nq
      have H1n : Hid (Row (wr.drewN nq) w.heap.size [a, b, c, d, e, f, g, h] 99) := H1
      have H2n : Hid (Row (wr.drewN nq) (w.heap.size + 1) (List.replicate 8 0) 99) := H2
      have H3n : Hid (Row (wr.drewN nq) G L 115) := H3
      have HBn : Hid (Below w.heap.size w (wr.drewN nq)) := Lib.hid ⟨HB.out.os, HB.out.tape, HB.out.output, HB.out.size, HB.out.block⟩
      generalize wr.drewN nq = w3 at H1n H2n H3n HBn ⊢
      go_wp2_with (go_at_call 62; with_reducible refine (HM0.out _).mono ?_; rintro r w' ⟨rfl, rfl⟩)
      have eX : bits .xor .u32 ((e' &&& f' : Nat) : Int) (bits .and .u32 (bits .xor .u32 (if IntKind.u32.signed = true then -1 else IntKind.u32.max) (e' : Int)) (g' : Int)) = ch := by
        rw [show (if IntKind.u32.signed = true then (-1 : Int) else IntKind.u32.max) = IntKind.u32.max from rfl, x2, x3, x4]
      go_roundw
      case rel =>
        rw [eX]
        refine ⟨k + 1, _, a', b', c', _, e', f', g', by omega, by go_num, by go_num, rfl, rfl, rfl, by go_num, rfl, rfl, rfl, HN.out.trans HS.out, ?_, H1n.out, H2n.out, H3n.out, HBn.out⟩
        intro y hy
        simp only [stL, List.mem_cons, List.not_mem_nil, or_false] at hy
        rcases hy with hy | hy | hy | hy | hy | hy | hy | hy <;> omega
      case measure => simp [Go.RowKit.intOf]; omega
    · have hz : ¬ (k : Int) < 64 := by omega
      have e64 : k = 64 := by omega
      subst e64
      have hr := HR.out
      rw [List.take_of_length_le (show roundK.length ≤ 64 from Nat.le_refl _), List.take_of_length_le (by rw [HLl.out]; exact Nat.le_refl _)] at hr
      have HF : Hid (stL (blockN (a, b, c, d, e, f, g, h) p.data.toList) = plusL [a, b, c, d, e, f, g, h] [a', b', c', d', e', f', g', h'] 8) := Lib.hid (by
        unfold blockN
        rw [HL.out, hr]
        simp [plusL, addSt, stL, Nat.add_comm])
      have cP := Lib.hid (fun W => plus_any [a, b, c, d, e, f, g, h] [a', b', c', d', e', f', g', h'] W rfl rfl Hl.out HWd.out)
      clear hr
      go_wp2_with (first | (refine wpList_load_row rfl 99 _ rfl _ rfl 99 _ (0, 0) _ H1.out Tryd.underlying99 rfl (by kernel_rfl) ?_))
      refine (cP.out _).mono ?_
      rintro r w4 ⟨rfl, hb4⟩
      have H2f := Lib.hid (H2.out.below hb4 H2.out.lt)
      have HBf := Lib.hid (Below.trans HB.out (hb4.mono HB.out.size))
      clear hb4
      rw [← HF.out]
      obtain ⟨Z, hZ⟩ : ∃ Z, stL (blockN (a, b, c, d, e, f, g, h) p.data.toList) = Z := ⟨_, rfl⟩
      have hZl : Z.length = 8 := by rw [← hZ]; exact stL_len _
      have HZ := Lib.hid hZ
      have HZl := Lib.hid hZl
      rw [hZ]
      clear hZ hZl
      go_wp2_with (refine wpList_store_row rfl 99 _ _ rfl (w.heap.size + 1) (cellsU Z) rfl rfl 99 _ H2f.out (by rw [cellsU_size, HZl.out]; kernel_rfl) (by rw [cellsU_size, cellsU_size, HZl.out]; rfl) (cellsU_one _) ?_)
      refine bodyPost_ret (v := .agg (cellsU Z)) ?_ rfl ⟨by rw [HZ.out], below_setRow HBf.out (by omega) _⟩
      exact results_cell_row rfl _ _ (w.heap.size + 1) 99 (cellsU Z) (0, 0) _ rfl (H2f.out.setRow Z) Tryd.underlying99 rfl (by rw [cellsU_size, HZl.out]; kernel_rfl)
end HQ
end Go.Proofs.YtmpmmebmhffaeaaDoor
