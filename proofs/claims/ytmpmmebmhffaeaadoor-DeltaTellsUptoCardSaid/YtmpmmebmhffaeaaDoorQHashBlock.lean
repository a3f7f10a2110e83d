/- Layer 4: the contract of the document's block. -/
import Derived.Test.YtmpmmebmhffaeaaDoorQHashBehind
import Derived.Test.YtmpmmebmhffaeaaDoorQHashOwn
import Derived.Test.YtmpmmebmhffaeaaDoorQHashRef3
import Derived.Deep.RegionHeld3
import Derived.BigRegion
import Derived.BigQuiet
set_option linter.all false
set_option maxRecDepth 100000
set_option maxHeartbeats 25600000
namespace Go.Proofs.YtmpmmebmhffaeaaDoor
open Go.RowKit Go.Lib
namespace HX
open HP HS HR HQ

/-- A slice of words lies there. -/
def Sl32 (W : World) (v : Value) (l : List Nat) : Prop :=
  ∃ g cap, v = .slice (some ⟨g, 0, none⟩) l.length cap ∧ g < W.heap.size ∧ ∀ j x, l[j]? = some x → W.cell? ⟨g, j, none⟩ = some (.int .u32 (x : Nat))
theorem Sl32.below {W W' : World} {v : Value} {l : List Nat} (h : Sl32 W v l) (hb : Below W.heap.size W W') : Sl32 W' v l := by
  obtain ⟨g, cap, hv, hg, hc⟩ := h
  exact ⟨g, cap, hv, Nat.lt_of_lt_of_le hg hb.size, fun j x hj => (hb.cell (p := ⟨g, j, none⟩) hg).trans (hc j x hj)⟩
theorem info32 : ∃ i0, Tryd.prog.info? 31 = some i0 ∧ i0.zero = some (.int .u32 0) ∧ i0.size = 1 ∧ i0.bytes = 4 :=
  HR.info_parts (t := 31) (i := Tryd.prog.info? 31) (z := some (.int .u32 0)) (a := 1) (b := 4) (by kernel_rfl)
/-- Words that lie in a block of the call's own, and may be written. -/
structure Free32 (W : World) (B : Nat) (g cap : Nat) (l : List Nat) : Prop where
  base : B ≤ g
  lt : g < W.heap.size
  cells : ∀ j x, l[j]? = some x → W.cell? ⟨g, j, none⟩ = some (.int .u32 (x : Nat))
  free : ∀ j, j < l.length → W.frozen? ⟨g, j, none⟩ = false
theorem Free32.drewN {W : World} {B g cap : Nat} {l : List Nat} (h : Free32 W B g cap l) (n : Nat) : Free32 (W.drewN n) B g cap l := ⟨h.base, h.lt, h.cells, h.free⟩
theorem Free32.sl {W : World} {B g cap : Nat} {l : List Nat} (h : Free32 W B g cap l) : Sl32 W (.slice (some ⟨g, 0, none⟩) l.length cap) l := ⟨g, cap, rfl, h.lt, h.cells⟩
theorem Free32.set {W : World} {B g cap : Nat} {l : List Nat} (h : Free32 W B g cap l) (i : Nat) (hi : i < l.length) (n : Nat) : Free32 (W.setCell ⟨g, i, none⟩ (.int .u32 (n : Nat))).drew B g cap (l.set i n) := by
  refine ⟨h.base, by have := h.lt; simpa using this, fun j c hj => ?_, fun j hj => ?_⟩
  · show (W.setCell ⟨g, i, none⟩ (.int .u32 (n : Nat))).cell? ⟨g, j, none⟩ = _
    by_cases hij : i = j
    · subst hij
      rw [List.getElem?_set_self hi] at hj
      cases hj
      obtain ⟨c, hc⟩ : ∃ c, l[i]? = some c := ⟨l[i], List.getElem?_eq_getElem hi⟩
      exact World.cell?_setCell_same _ _ _ (h.cells i c hc)
    · rw [List.getElem?_set_ne hij] at hj
      rw [World.cell?_setCell_other]
      · exact h.cells j c hj
      · intro e
        cases e
        exact hij rfl
  · show (W.setCell ⟨g, i, none⟩ (.int .u32 (n : Nat))).frozen? ⟨g, j, none⟩ = _
    rw [World.frozen?_setCell]
    rw [List.length_set] at hj
    exact h.free j hj
theorem free_own {W : World} {B : Nat} {v : Value} {n : Nat} {l : List Nat} (h : W.ownsRow B 31 1 v n (l.map fun x : Nat => Value.int .u32 x)) (hn : n = l.length) (h0 : 0 < n) : ∃ g cap, v = .slice (some ⟨g, 0, none⟩) l.length cap ∧ Free32 W B g cap l := by
  subst hn
  rcases h.2 with ⟨_, h1⟩ | ⟨g, cap, cur, hv, hg, hrow, hle, _, hcs, htake⟩
  · omega
  · refine ⟨g, cap, hv, hg, (Array.getElem?_eq_some_iff.1 hrow).1, fun j x hj => ?_, fun j hj => frozen_of_row W g j cur _ hrow⟩
    have hc := World.ownsRow.cells h (g := g) (by rw [hv]; rfl) j (.int .u32 (x : Nat)) (by rw [List.getElem?_map, hj]; rfl)
    have hadd : (⟨g, 0, none⟩ : Addr).add j = ⟨g, j, none⟩ := by unfold Addr.add; split <;> simp_all
    rwa [hadd] at hc
theorem bs1_ops {e : Nat} (he : e < 4294967296) : ∃ n : Nat, n = bs1 e ∧ (n : Int) < 4294967296 ∧ bits .xor .u32 ((rotr e 6 : Nat) : Int) ((rotr e 11 : Nat) : Int) = ((rotr e 6 ^^^ rotr e 11 : Nat) : Int) ∧ bits .xor .u32 ((rotr e 6 ^^^ rotr e 11 : Nat) : Int) ((rotr e 25 : Nat) : Int) = n := by
  have a := rotr_lt e 6 he
  have b := rotr_lt e 11 he
  have c := rotr_lt e 25 he
  have h := bs1_lt he
  exact ⟨_, rfl, by omega, xor_u32 _ _ a b, xor_u32 _ _ (Nat.xor_lt_two_pow (n := 32) a b) c⟩
theorem bs0_ops {e : Nat} (he : e < 4294967296) : ∃ n : Nat, n = bs0 e ∧ (n : Int) < 4294967296 ∧ bits .xor .u32 ((rotr e 2 : Nat) : Int) ((rotr e 13 : Nat) : Int) = ((rotr e 2 ^^^ rotr e 13 : Nat) : Int) ∧ bits .xor .u32 ((rotr e 2 ^^^ rotr e 13 : Nat) : Int) ((rotr e 22 : Nat) : Int) = n := by
  have a := rotr_lt e 2 he
  have b := rotr_lt e 13 he
  have c := rotr_lt e 22 he
  have h := bs0_lt he
  exact ⟨_, rfl, by omega, xor_u32 _ _ a b, xor_u32 _ _ (Nat.xor_lt_two_pow (n := 32) a b) c⟩
theorem rounds_words : ∀ (ks ws : List Nat) (v : St), Words v → Words (rounds v ks ws)
  | [], [], _, h => h
  | [], _ :: _, _, h => h
  | _ :: _, [], _, h => h
  | k :: ks, w :: ws, v, h => rounds_words ks ws _ (by
    obtain ⟨a, b, c, d, e, f, g, i⟩ := v
    intro y hy
    have ha := h a (by simp [stL])
    have hb := h b (by simp [stL])
    have hc := h c (by simp [stL])
    have he := h e (by simp [stL])
    have hf := h f (by simp [stL])
    have hg := h g (by simp [stL])
    simp only [roundStep, stL, List.mem_cons, List.not_mem_nil, or_false] at hy
    rcases hy with hy | hy | hy | hy | hy | hy | hy | hy <;> omega)
theorem news8 (W : World) (l : List Nat) (v : Value) (h : Sl32 W v l) : ∃ g cap, v = .slice (some ⟨g, 0, none⟩) l.length cap ∧ ∀ j u, (l.map fun x : Nat => Value.int .u32 x)[j]? = some u → W.cell? ((⟨g, 0, none⟩ : Addr).add j) = some u := by
  obtain ⟨g, cap, hv, hg, hc⟩ := h
  refine ⟨g, cap, hv, fun j u hj => ?_⟩
  have hadd : (⟨g, 0, none⟩ : Addr).add j = ⟨g, j, none⟩ := by unfold Addr.add; split <;> simp_all
  rw [List.getElem?_map] at hj
  obtain ⟨x, hx, rfl⟩ := Option.map_eq_some_iff.1 hj
  rw [hadd]
  exact hc j x hx
theorem hnews_lt {W : World} {g cap : Nat} {l : List Nat} (h : Sl32 W (.slice (some ⟨g, 0, none⟩) l.length cap) l) (j : Nat) : ((⟨g, 0, none⟩ : Addr).add j).block < W.heap.size := by
  obtain ⟨g', cap', hv, hg, _⟩ := h
  cases hv
  have hadd : (⟨g, 0, none⟩ : Addr).add j = ⟨g, j, none⟩ := by unfold Addr.add; split <;> simp_all
  rw [hadd]
  exact hg
theorem World.cell?_alloc_lt' (W : World) (o : Obj) {p : Addr} {v : Value} (hp : p.block < W.heap.size) (h : W.cell? p = some v) : (W.alloc o).cell? p = some v :=
  ((((Below.refl W.heap.size W).alloc (Nat.le_refl _) o)).cell hp).trans h
/-- What holds at the head of each round. -/
def BlkInv (w : World) (v0 : St) (K L : List Nat) (s7 s8 : Value) (wr : World) : Prop :=
  ∃ (k g cap : Nat) (a b c d e f g' h : Nat), k ≤ 64 ∧ s8 = .int .i64 k ∧ s7 = .slice (some ⟨g, 0, none⟩) 8 cap ∧ Free32 wr w.heap.size g cap [a, b, c, d, e, f, g', h] ∧ rounds v0 (K.take k) (L.take k) = (a, b, c, d, e, f, g', h) ∧ Words (a, b, c, d, e, f, g', h) ∧ Below w.heap.size w wr
set_option maxRecDepth 100000 in
set_option maxHeartbeats 1600000 in
theorem rblock_any (a b c d e f g h : Nat) (vh vw vk : Value) (L K : List Nat) (w : World) (hh : Sl32 w vh [a, b, c, d, e, f, g, h]) (hw : Sl32 w vw L) (hk : Sl32 w vk K) (hL : L.length = 64) (hK : K.length = 64)
    (hwd : Words (a, b, c, d, e, f, g, h)) (hLw : ∀ x ∈ L, x < 4294967296) (hKw : ∀ x ∈ K, x < 4294967296) :
    Calls Tryd.prog 53 #[vh, vw, vk] w fun r w' => ∃ v, r = .returned v ∧ Sl32 w' v (stL (addSt (rounds (a, b, c, d, e, f, g, h) K L) (a, b, c, d, e, f, g, h))) ∧ Below w.heap.size w w' := by
  obtain ⟨i0, hi, hz0, hz1, hz2⟩ := info32
  obtain ⟨gh, ch, rfl, hnews⟩ := news8 w _ vh hh
  obtain ⟨gw, cw, rfl, hgw, hcw⟩ := hw
  obtain ⟨gk, ck, rfl, hgk, hck⟩ := hk
  rw [hL, hK]
  have HH := Lib.hid hh
  have HN := Lib.hid hnews
  have HCW := Lib.hid hcw
  have HCK := Lib.hid hck
  have HWd := Lib.hid hwd
  have HLw := Lib.hid hLw
  have HKw := Lib.hid hKw
  have HLl := Lib.hid hL
  have HKl := Lib.hid hK
  clear hh hnews hcw hck hwd hLw hKw hL hK
  go_enter Tryd.func53, Tryd.ntmps53
  have HN1 := Lib.hid (fun j u hj => (World.cell?_alloc_lt' w (.cells #[] 31) (hnews_lt HH.out j) (HN.out j u hj)))
  have h1c : ∀ u ∈ ([a, b, c, d, e, f, g, h].map fun x : Nat => Value.int .u32 x), u.oneCell' = true := fun u hu => by
    obtain ⟨x, _, rfl⟩ := List.mem_map.1 hu
    rfl
  have H1c := Lib.hid h1c
  clear h1c
  go_wp2_with (at_builtin; refine wpList_append_grows _ rfl _ _ 82 rfl 31 i0 (.int .u32 0) 1 4 Tryd.underlying82 hi hz0 hz1 hz2 rfl (by decide) (some ⟨w.heap.size, 0, none⟩) 0 0 [] rfl (fun h => by cases h) rfl (fun b hb j u hj => by simp at hj) ⟨gh, 0, none⟩ 8 ch ([a, b, c, d, e, f, g, h].map fun x : Nat => Value.int .u32 x) rfl rfl HN1.out H1c.out (by decide) (by decide) (by decide) ?_; intro v3 w3 hown hgrow; obtain ⟨g3, cap3, rfl, hf3⟩ := free_own (l := [a, b, c, d, e, f, g, h]) hown rfl (by decide); have HF3 : Hid (Free32 w3 w.heap.size g3 cap3 [a, b, c, d, e, f, g, h]) := Lib.hid ⟨Nat.le_trans (by simp) hf3.base, hf3.lt, hf3.cells, hf3.free⟩; have HB3 : Hid (Below w.heap.size w w3) := Lib.hid (Below.grown ((Below.refl _ _).alloc (Nat.le_refl _) _) hgrow (by simp) (fun k hk => by cases hk)); clear hown hgrow hf3)
  go_loopw [7, 8, 9, 10, 11, 12] (fun s7 s8 _ _ _ _ wr => BlkInv w (a, b, c, d, e, f, g, h) K L s7 s8 wr) (fun _ s8 _ _ _ _ _ => 64 - (Go.RowKit.intOf s8).toNat)
  case atStart => exact ⟨0, g3, cap3, a, b, c, d, e, f, g, h, Nat.zero_le _, rfl, rfl, HF3.out, rfl, HWd.out, HB3.out⟩
  case round =>
    clear HF3 HB3
    obtain ⟨k, G, cap, a', b', c', d', e', f', g', h', hk, rfl, rfl, hF, hr, hw, hb⟩ := hrel
    have HF := Lib.hid hF
    have HR := Lib.hid hr
    have HWd' := Lib.hid hw
    have HB := Lib.hid hb
    clear hF hr hw hb
    by_cases hlt : k < 64
    · have hz : (k : Int) < 64 := by omega
      have la : a' < 4294967296 := HWd'.out _ (by simp [stL])
      have lb : b' < 4294967296 := HWd'.out _ (by simp [stL])
      have lc : c' < 4294967296 := HWd'.out _ (by simp [stL])
      have ld : d' < 4294967296 := HWd'.out _ (by simp [stL])
      have le : e' < 4294967296 := HWd'.out _ (by simp [stL])
      have lf : f' < 4294967296 := HWd'.out _ (by simp [stL])
      have lg : g' < 4294967296 := HWd'.out _ (by simp [stL])
      have lh : h' < 4294967296 := HWd'.out _ (by simp [stL])
      have k0 : wr.cell? ⟨G, 0, none⟩ = some (.int .u32 (a' : Nat)) := HF.out.cells 0 a' rfl
      have k1 : wr.cell? ⟨G, 1, none⟩ = some (.int .u32 (b' : Nat)) := HF.out.cells 1 b' rfl
      have k2 : wr.cell? ⟨G, 2, none⟩ = some (.int .u32 (c' : Nat)) := HF.out.cells 2 c' rfl
      have k3 : wr.cell? ⟨G, 3, none⟩ = some (.int .u32 (d' : Nat)) := HF.out.cells 3 d' rfl
      have k4 : wr.cell? ⟨G, 4, none⟩ = some (.int .u32 (e' : Nat)) := HF.out.cells 4 e' rfl
      have k5 : wr.cell? ⟨G, 5, none⟩ = some (.int .u32 (f' : Nat)) := HF.out.cells 5 f' rfl
      have k6 : wr.cell? ⟨G, 6, none⟩ = some (.int .u32 (g' : Nat)) := HF.out.cells 6 g' rfl
      have k7 : wr.cell? ⟨G, 7, none⟩ = some (.int .u32 (h' : Nat)) := HF.out.cells 7 h' rfl
      obtain ⟨x, hx⟩ : ∃ x, L[k]? = some x := ⟨L[k]'(by rw [HLl.out]; exact hlt), List.getElem?_eq_getElem _⟩
      obtain ⟨q, hq⟩ : ∃ q, K[k]? = some q := ⟨K[k]'(by rw [HKl.out]; exact hlt), List.getElem?_eq_getElem _⟩
      have lx : (x : Int) < 4294967296 := by have := HLw.out x (List.mem_of_getElem? hx); omega
      have lq : (q : Int) < 4294967296 := by have := HKw.out q (List.mem_of_getElem? hq); omega
      have cx : wr.cell? ⟨gw, k, none⟩ = some (.int .u32 (x : Nat)) := (HB.out.cell (p := ⟨gw, k, none⟩) hgw).trans (HCW.out k x hx)
      have cq : wr.cell? ⟨gk, k, none⟩ = some (.int .u32 (q : Nat)) := (HB.out.cell (p := ⟨gk, k, none⟩) hgk).trans (HCK.out k q hq)
      obtain ⟨m1, hm1, lm1, z1, z2⟩ := bs1_ops le
      obtain ⟨m0, hm0, lm0, z3, z4⟩ := bs0_ops la
      have R6 : Hid (∀ W, Calls Tryd.prog 52 #[.int .u32 (e' : Nat), .int .u32 6] W fun r w' => r = .returned (.int .u32 (rotr e' 6 : Nat)) ∧ W = w') := Lib.hid (fun W => rturn_any e' 6 W le (by decide) (by decide))
      have R11 : Hid (∀ W, Calls Tryd.prog 52 #[.int .u32 (e' : Nat), .int .u32 11] W fun r w' => r = .returned (.int .u32 (rotr e' 11 : Nat)) ∧ W = w') := Lib.hid (fun W => rturn_any e' 11 W le (by decide) (by decide))
      have R25 : Hid (∀ W, Calls Tryd.prog 52 #[.int .u32 (e' : Nat), .int .u32 25] W fun r w' => r = .returned (.int .u32 (rotr e' 25 : Nat)) ∧ W = w') := Lib.hid (fun W => rturn_any e' 25 W le (by decide) (by decide))
      have R2 : Hid (∀ W, Calls Tryd.prog 52 #[.int .u32 (a' : Nat), .int .u32 2] W fun r w' => r = .returned (.int .u32 (rotr a' 2 : Nat)) ∧ W = w') := Lib.hid (fun W => rturn_any a' 2 W la (by decide) (by decide))
      have R13 : Hid (∀ W, Calls Tryd.prog 52 #[.int .u32 (a' : Nat), .int .u32 13] W fun r w' => r = .returned (.int .u32 (rotr a' 13 : Nat)) ∧ W = w') := Lib.hid (fun W => rturn_any a' 13 W la (by decide) (by decide))
      have R22 : Hid (∀ W, Calls Tryd.prog 52 #[.int .u32 (a' : Nat), .int .u32 22] W fun r w' => r = .returned (.int .u32 (rotr a' 22 : Nat)) ∧ W = w') := Lib.hid (fun W => rturn_any a' 22 W la (by decide) (by decide))
      obtain ⟨ch', hch, lch, x1, x2, x3, x4⟩ := ch_ops le lf lg
      obtain ⟨mj, hmj, lmj, y1, y2, y3, y4, y5⟩ := maj_ops la lb lc
      have HeX : Hid (bits .xor .u32 ((e' &&& f' : Nat) : Int) (bits .and .u32 (bits .xor .u32 (if IntKind.u32.signed = true then -1 else IntKind.u32.max) (e' : Int)) (g' : Int)) = ch') := Lib.hid (by
        rw [show (if IntKind.u32.signed = true then (-1 : Int) else IntKind.u32.max) = IntKind.u32.max from rfl, x2, x3, x4])
      have HS : Hid (roundStep (a', b', c', d', e', f', g', h') q x = (((h' + m1 + ch' + q + x) % 4294967296 + (m0 + mj) % 4294967296) % 4294967296, a', b', c', (d' + (h' + m1 + ch' + q + x) % 4294967296) % 4294967296, e', f', g')) := Lib.hid (by rw [hm1, hm0, hch, hmj]; rfl)
      have HNx : Hid (rounds (a, b, c, d, e, f, g, h) (K.take (k + 1)) (L.take (k + 1)) = roundStep (a', b', c', d', e', f', g', h') q x) := Lib.hid (by
        rw [List.take_add_one, List.take_add_one, hq, hx, ← HR.out]
        exact rounds_snoc _ _ _ _ _ (by rw [List.length_take, List.length_take, HLl.out, HKl.out]))
      obtain ⟨T, hT, hTl, hTn⟩ : ∃ T : Nat, (((h' : Int) + m1 + ch' + q) % 4294967296 + x) % 4294967296 = (T : Int) ∧ (T : Int) < 4294967296 ∧ T = (h' + m1 + ch' + q + x) % 4294967296 := ⟨(h' + m1 + ch' + q + x) % 4294967296, by omega, by omega, rfl⟩
      have HT1 := Lib.hid hT
      have HTn := Lib.hid hTn
      clear hT hTn
      have laz : (a' : Int) < 4294967296 := by omega
      have lbz : (b' : Int) < 4294967296 := by omega
      have lcz : (c' : Int) < 4294967296 := by omega
      have ldz : (d' : Int) < 4294967296 := by omega
      have lez : (e' : Int) < 4294967296 := by omega
      have lfz : (f' : Int) < 4294967296 := by omega
      have lgz : (g' : Int) < 4294967296 := by omega
      have lhz : (h' : Int) < 4294967296 := by omega
      have Hx := Lib.hid hx
      have Hq := Lib.hid hq
      clear hm1 hm0 la lb lc ld le lf lg lh hch hmj hq hx
      go_wp2_with fail
      go_quiet (fail)
      have HF5 : Hid (Free32 (wr.drewN nq) w.heap.size G cap [a', b', c', d', e', f', g', h']) := Lib.hid (HF.out.drewN nq)
      have HB5 : Hid (Below w.heap.size w (wr.drewN nq)) := Lib.hid ⟨HB.out.os, HB.out.tape, HB.out.output, HB.out.size, HB.out.block⟩
      clear k0 k1 k2 k3 k4 k5 k6 k7 cx cq
      generalize wr.drewN nq = w5 at HF5 HB5 ⊢
      have k0 : w5.cell? ⟨G, 0, none⟩ = some (.int .u32 (a' : Nat)) := HF5.out.cells 0 a' rfl
      have k1 : w5.cell? ⟨G, 1, none⟩ = some (.int .u32 (b' : Nat)) := HF5.out.cells 1 b' rfl
      have k2 : w5.cell? ⟨G, 2, none⟩ = some (.int .u32 (c' : Nat)) := HF5.out.cells 2 c' rfl
      have k3 : w5.cell? ⟨G, 3, none⟩ = some (.int .u32 (d' : Nat)) := HF5.out.cells 3 d' rfl
      have k4 : w5.cell? ⟨G, 4, none⟩ = some (.int .u32 (e' : Nat)) := HF5.out.cells 4 e' rfl
      have k5 : w5.cell? ⟨G, 5, none⟩ = some (.int .u32 (f' : Nat)) := HF5.out.cells 5 f' rfl
      have k6 : w5.cell? ⟨G, 6, none⟩ = some (.int .u32 (g' : Nat)) := HF5.out.cells 6 g' rfl
      have k7 : w5.cell? ⟨G, 7, none⟩ = some (.int .u32 (h' : Nat)) := HF5.out.cells 7 h' rfl
      have cx : w5.cell? ⟨gw, k, none⟩ = some (.int .u32 (x : Nat)) := (HB5.out.cell (p := ⟨gw, k, none⟩) hgw).trans (HCW.out k x Hx.out)
      have cq : w5.cell? ⟨gk, k, none⟩ = some (.int .u32 (q : Nat)) := (HB5.out.cell (p := ⟨gk, k, none⟩) hgk).trans (HCK.out k q Hq.out)
      go_wp2_with fail
      go_quiet (first | (go_at_call_of 52 (Value.int IntKind.u32 6); exact Calls.quiet_of_same ((R6.out _).mono fun r w' h => ⟨h.1, h.2.symm⟩)) | (go_at_call_of 52 (Value.int IntKind.u32 11); exact Calls.quiet_of_same ((R11.out _).mono fun r w' h => ⟨h.1, h.2.symm⟩)) | (go_at_call_of 52 (Value.int IntKind.u32 25); exact Calls.quiet_of_same ((R25.out _).mono fun r w' h => ⟨h.1, h.2.symm⟩)))
      have HF6 : Hid (Free32 (w5.drewN nq) w.heap.size G cap [a', b', c', d', e', f', g', h']) := Lib.hid (HF5.out.drewN nq)
      have HB6 : Hid (Below w.heap.size w (w5.drewN nq)) := Lib.hid ⟨HB5.out.os, HB5.out.tape, HB5.out.output, HB5.out.size, HB5.out.block⟩
      clear k0 k1 k2 k3 k4 k5 k6 k7 cx cq
      generalize w5.drewN nq = w6 at HF6 HB6 ⊢
      have k0 : w6.cell? ⟨G, 0, none⟩ = some (.int .u32 (a' : Nat)) := HF6.out.cells 0 a' rfl
      have k1 : w6.cell? ⟨G, 1, none⟩ = some (.int .u32 (b' : Nat)) := HF6.out.cells 1 b' rfl
      have k2 : w6.cell? ⟨G, 2, none⟩ = some (.int .u32 (c' : Nat)) := HF6.out.cells 2 c' rfl
      have k3 : w6.cell? ⟨G, 3, none⟩ = some (.int .u32 (d' : Nat)) := HF6.out.cells 3 d' rfl
      have k4 : w6.cell? ⟨G, 4, none⟩ = some (.int .u32 (e' : Nat)) := HF6.out.cells 4 e' rfl
      have k5 : w6.cell? ⟨G, 5, none⟩ = some (.int .u32 (f' : Nat)) := HF6.out.cells 5 f' rfl
      have k6 : w6.cell? ⟨G, 6, none⟩ = some (.int .u32 (g' : Nat)) := HF6.out.cells 6 g' rfl
      have k7 : w6.cell? ⟨G, 7, none⟩ = some (.int .u32 (h' : Nat)) := HF6.out.cells 7 h' rfl
      have cx : w6.cell? ⟨gw, k, none⟩ = some (.int .u32 (x : Nat)) := (HB6.out.cell (p := ⟨gw, k, none⟩) hgw).trans (HCW.out k x Hx.out)
      have cq : w6.cell? ⟨gk, k, none⟩ = some (.int .u32 (q : Nat)) := (HB6.out.cell (p := ⟨gk, k, none⟩) hgk).trans (HCK.out k q Hq.out)
      rw [HeX.out, HT1.out]
      generalize (((h' : Int) + m1 + ch') % 4294967296 + q) % 4294967296 = u90
      generalize (((h' : Int) + m1) % 4294967296 + ch') % 4294967296 = u91
      generalize ((h' : Int) + m1) % 4294967296 = u92
      generalize bits .and .u32 (bits .xor .u32 (if IntKind.u32.signed = true then -1 else IntKind.u32.max) (e' : Int)) (g' : Int) = u93
      generalize bits .xor .u32 (if IntKind.u32.signed = true then -1 else IntKind.u32.max) (e' : Int) = u94
      go_wp2_with fail
      go_quiet (first | (go_at_call_of 52 (Value.int IntKind.u32 2); exact Calls.quiet_of_same ((R2.out _).mono fun r w' h => ⟨h.1, h.2.symm⟩)) | (go_at_call_of 52 (Value.int IntKind.u32 13); exact Calls.quiet_of_same ((R13.out _).mono fun r w' h => ⟨h.1, h.2.symm⟩)) | (go_at_call_of 52 (Value.int IntKind.u32 22); exact Calls.quiet_of_same ((R22.out _).mono fun r w' h => ⟨h.1, h.2.symm⟩)))
      have HF4 : Hid (Free32 (w6.drewN nq) w.heap.size G cap [a', b', c', d', e', f', g', h']) := Lib.hid (HF6.out.drewN nq)
      have HB4 : Hid (Below w.heap.size w (w6.drewN nq)) := Lib.hid ⟨HB6.out.os, HB6.out.tape, HB6.out.output, HB6.out.size, HB6.out.block⟩
      clear k0 k1 k2 k3 k4 k5 k6 k7 cx cq
      generalize w6.drewN nq = w4 at HF4 HB4 ⊢
      have k0 : w4.cell? ⟨G, 0, none⟩ = some (.int .u32 (a' : Nat)) := HF4.out.cells 0 a' rfl
      have k1 : w4.cell? ⟨G, 1, none⟩ = some (.int .u32 (b' : Nat)) := HF4.out.cells 1 b' rfl
      have k2 : w4.cell? ⟨G, 2, none⟩ = some (.int .u32 (c' : Nat)) := HF4.out.cells 2 c' rfl
      have k3 : w4.cell? ⟨G, 3, none⟩ = some (.int .u32 (d' : Nat)) := HF4.out.cells 3 d' rfl
      have k4 : w4.cell? ⟨G, 4, none⟩ = some (.int .u32 (e' : Nat)) := HF4.out.cells 4 e' rfl
      have k5 : w4.cell? ⟨G, 5, none⟩ = some (.int .u32 (f' : Nat)) := HF4.out.cells 5 f' rfl
      have k6 : w4.cell? ⟨G, 6, none⟩ = some (.int .u32 (g' : Nat)) := HF4.out.cells 6 g' rfl
      have k7 : w4.cell? ⟨G, 7, none⟩ = some (.int .u32 (h' : Nat)) := HF4.out.cells 7 h' rfl
      go_wp2_with fail
      have hG4 : G < w4.heap.size := HF4.out.lt
      go_region_held3 (fun w' => w'.cell? ⟨G, 0, none⟩ = some (.int .u32 (a' : Nat)) ∧ w'.cell? ⟨G, 1, none⟩ = some (.int .u32 (b' : Nat)) ∧ w'.cell? ⟨G, 2, none⟩ = some (.int .u32 (c' : Nat)) ∧ w'.cell? ⟨G, 3, none⟩ = some (.int .u32 (d' : Nat)) ∧ w'.cell? ⟨G, 4, none⟩ = some (.int .u32 (e' : Nat)) ∧ w'.cell? ⟨G, 5, none⟩ = some (.int .u32 (f' : Nat)) ∧ w'.cell? ⟨G, 6, none⟩ = some (.int .u32 (g' : Nat)) ∧ w'.cell? ⟨G, 7, none⟩ = some (.int .u32 (h' : Nat))) (first | exact ⟨k0, k1, k2, k3, k4, k5, k6, k7⟩ | exact ⟨World.cell?_alloc_lt' w4 _ hG4 k0, World.cell?_alloc_lt' w4 _ hG4 k1, World.cell?_alloc_lt' w4 _ hG4 k2, World.cell?_alloc_lt' w4 _ hG4 k3, World.cell?_alloc_lt' w4 _ hG4 k4, World.cell?_alloc_lt' w4 _ hG4 k5, World.cell?_alloc_lt' w4 _ hG4 k6, World.cell?_alloc_lt' w4 _ hG4 k7⟩) (fail)
      all_goals (try go_wp2_with fail)
      all_goals
        go_roundw
        case rel =>
          have lT : T < 4294967296 := by omega
          have hs := HNx.out.trans HS.out
          rw [← HTn.out] at hs
          rw [show ((T : Int) + ((m0 : Int) + mj) % 4294967296) % 4294967296 = (((T + (m0 + mj) % 4294967296) % 4294967296 : Nat) : Int) by omega, show ((d' : Int) + T) % 4294967296 = (((d' + T) % 4294967296 : Nat) : Int) by omega]
          have R := Row.new w4 [(T + (m0 + mj) % 4294967296) % 4294967296, a', b', c', (d' + T) % 4294967296, e', f', g'] 31
          refine ⟨k + 1, w4.heap.size, 8, (T + (m0 + mj) % 4294967296) % 4294967296, a', b', c', (d' + T) % 4294967296, e', f', g', by omega, by go_num, rfl, ⟨HB4.out.size, R.drew.lt, fun j x hj => R.drew.cell hj, fun j hj => R.drew.frozen j⟩, hs, ?_, (HB4.out.alloc HB4.out.size _).drew⟩
          intro y hy
          simp only [stL, List.mem_cons, List.not_mem_nil, or_false] at hy
          rcases hy with hy | hy | hy | hy | hy | hy | hy | hy <;> omega
        case measure => simp [Go.RowKit.intOf]; omega
    · have hz : ¬ (k : Int) < 64 := by omega
      have e64 : k = 64 := by omega
      subst e64
      have hr := HR.out
      rw [List.take_of_length_le (by rw [HKl.out]; exact Nat.le_refl _), List.take_of_length_le (by rw [HLl.out]; exact Nat.le_refl _)] at hr
      have HF0 : Hid (stL (addSt (rounds (a, b, c, d, e, f, g, h) K L) (a, b, c, d, e, f, g, h)) = plusL [a', b', c', d', e', f', g', h'] [a, b, c, d, e, f, g, h] 8) := Lib.hid (by
        rw [hr]
        simp [plusL, addSt, stL])
      have hgh : gh < w.heap.size := by
        obtain ⟨q1, q2, q3, q4, _⟩ := HH.out
        cases q3
        exact q4
      have hG : w.heap.size ≤ G := HF.out.base
      clear hr
      go_wp2_with fail
      go_loopw [13] (fun s13 wr => ∃ k : Nat, k ≤ 8 ∧ s13 = .int .i64 k ∧ Free32 wr w.heap.size G cap (plusL [a', b', c', d', e', f', g', h'] [a, b, c, d, e, f, g, h] k) ∧ Below w.heap.size w wr) (fun s13 _ => 8 - (Go.RowKit.intOf s13).toNat)
      case atStart => exact ⟨0, Nat.zero_le _, rfl, HF.out, HB.out⟩
      case round =>
        clear HF HB
        obtain ⟨k, hk, rfl, hF, hb⟩ := hrel
        have HF := Lib.hid hF
        have HB := Lib.hid hb
        clear hF hb
        by_cases hlt : k < 8
        · have hz : (k : Int) < 8 := by omega
          obtain ⟨x, hx⟩ : ∃ x, [a', b', c', d', e', f', g', h'][k]? = some x := ⟨[a', b', c', d', e', f', g', h'][k]'(by simpa using hlt), List.getElem?_eq_getElem _⟩
          obtain ⟨y, hy⟩ : ∃ y, [a, b, c, d, e, f, g, h][k]? = some y := ⟨[a, b, c, d, e, f, g, h][k]'(by simpa using hlt), List.getElem?_eq_getElem _⟩
          have lx : (x : Int) < 4294967296 := by have := HWd'.out x (List.mem_of_getElem? hx); omega
          have ly : (y : Int) < 4294967296 := by have := HWd.out y (List.mem_of_getElem? hy); omega
          have cv := HF.out.cells k x ((plusL_at _ _ k k (Nat.le_refl _)).trans hx)
          have fv := HF.out.free k (by rw [plusL_len]; simpa using hlt)
          have hadd : (⟨gh, 0, none⟩ : Addr).add k = ⟨gh, k, none⟩ := by unfold Addr.add; split <;> simp_all
          have chh := HN.out k (.int .u32 (y : Nat)) (by rw [List.getElem?_map, hy]; rfl)
          rw [hadd] at chh
          have cy : wr.cell? ⟨gh, k, none⟩ = some (.int .u32 (y : Nat)) := (HB.out.cell (p := ⟨gh, k, none⟩) hgh).trans chh
          have HS : Hid (plusL [a', b', c', d', e', f', g', h'] [a, b, c, d, e, f, g, h] (k + 1) = (plusL [a', b', c', d', e', f', g', h'] [a, b, c, d, e, f, g, h] k).set k ((x + y) % 4294967296)) := Lib.hid (by
            rw [plusL, List.getD_eq_getElem?_getD, List.getD_eq_getElem?_getD, hx, hy]
            rfl)
          clear hx hy chh hadd
          go_wp2_with fail
          go_region
          all_goals (try go_wp2_with fail)
          all_goals
            go_roundw
            case rel =>
              have hset := HF.out.set k (by rw [plusL_len]; simpa using hlt) ((x + y) % 4294967296)
              rw [← HS.out, show (((x + y) % 4294967296 : Nat) : Int) = ((x : Int) + y) % 4294967296 by omega] at hset
              exact ⟨k + 1, by omega, by go_num, hset, (HB.out.setCell (by show w.heap.size ≤ G; exact hG) _).drew⟩
            case measure => simp [Go.RowKit.intOf]; omega
        · have hz : ¬ (k : Int) < 8 := by omega
          have e8 : k = 8 := by omega
          subst e8
          go_wp2_with fail
          go_ret
          refine ⟨_, rfl, ?_, HB.out⟩
          rw [HF0.out]
          have hsl := HF.out.sl
          rw [show (plusL [a', b', c', d', e', f', g', h'] [a, b, c, d, e, f, g, h] 8).length = 8 by rw [plusL_len]; rfl] at hsl
          exact hsl
end HX
end Go.Proofs.YtmpmmebmhffaeaaDoor
