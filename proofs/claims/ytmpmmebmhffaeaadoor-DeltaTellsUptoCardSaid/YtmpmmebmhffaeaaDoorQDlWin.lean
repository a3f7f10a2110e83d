/- Layer 14: the window that rolls along a text: how it lies; shown, over, pass, roll; what is made of sizes. -/
import Derived.Test.YtmpmmebmhffaeaaDoorQDla
import Derived.Test.YtmpmmebmhffaeaaDoorQQs
import Derived.Test.YtmpmmebmhffaeaaDoorQHashFn
import Derived.Test.YtmpmmebmhffaeaaDoorQHashRoll
import Derived.Deep.QuietTactic
import Derived.BigRegion
import Derived.Deep.RegionWith
import Derived.Deep.RegionHeld3
import Derived.Laws.DeepStrings4
set_option linter.all false
set_option maxRecDepth 100000
set_option maxHeartbeats 25600000
namespace Go.Proofs.YtmpmmebmhffaeaaDoor
open Go.RowKit Go.Lib Go.BigFrame
namespace DM
open OM DL HP HS

/-- The window lies at a block's beginning: the text, the size, from, to, the weak sum. -/
structure WinAt (B : Nat) (s : ByteArray) (sz f u k : Nat) (W : World) : Prop where
  c0 : W.cell? ⟨B, 0, none⟩ = some (.string s)
  c1 : W.cell? ⟨B, 1, none⟩ = some (.int .i64 sz)
  c2 : W.cell? ⟨B, 2, none⟩ = some (.int .i64 f)
  c3 : W.cell? ⟨B, 3, none⟩ = some (.int .i64 u)
  c4 : W.cell? ⟨B, 4, none⟩ = some (.int .u32 k)
  z : ∀ j, W.frozen? ⟨B, j, none⟩ = false
  lt : B < W.heap.size
theorem WinAt.below {B : Nat} {s : ByteArray} {sz f u k : Nat} {W W' : World} (h : WinAt B s sz f u k W) (hb : Below W.heap.size W W') : WinAt B s sz f u k W' :=
  ⟨(hb.cell (p := ⟨B, 0, none⟩) h.lt).trans h.c0, (hb.cell (p := ⟨B, 1, none⟩) h.lt).trans h.c1, (hb.cell (p := ⟨B, 2, none⟩) h.lt).trans h.c2, (hb.cell (p := ⟨B, 3, none⟩) h.lt).trans h.c3, (hb.cell (p := ⟨B, 4, none⟩) h.lt).trans h.c4, fun j => (hb.frozen (p := ⟨B, j, none⟩) h.lt).trans (h.z j), Nat.lt_of_lt_of_le h.lt hb.size⟩
theorem WinAt.out {S : Nat → Prop} {B : Nat} {s : ByteArray} {sz f u k : Nat} {W W' : World} (h : WinAt B s sz f u k W) (hb : FP.Out S W W') (hn : ¬ S B) : WinAt B s sz f u k W' :=
  ⟨(hb.cell (p := ⟨B, 0, none⟩) h.lt hn).trans h.c0, (hb.cell (p := ⟨B, 1, none⟩) h.lt hn).trans h.c1, (hb.cell (p := ⟨B, 2, none⟩) h.lt hn).trans h.c2, (hb.cell (p := ⟨B, 3, none⟩) h.lt hn).trans h.c3, (hb.cell (p := ⟨B, 4, none⟩) h.lt hn).trans h.c4, fun j => (hb.frozen (p := ⟨B, j, none⟩) h.lt hn).trans (h.z j), Nat.lt_of_lt_of_le h.lt hb.size⟩
theorem WinAt.set2 {B : Nat} {s : ByteArray} {sz f u k : Nat} {W : World} (h : WinAt B s sz f u k W) (n : Nat) : WinAt B s sz n u k (W.setCell ⟨B, 2, none⟩ (.int .i64 n)) :=
  ⟨by rw [World.cell?_setCell_other _ _ _ _ (by simp)]; exact h.c0, by rw [World.cell?_setCell_other _ _ _ _ (by simp)]; exact h.c1, World.cell?_setCell_same _ _ _ h.c2, by rw [World.cell?_setCell_other _ _ _ _ (by simp)]; exact h.c3, by rw [World.cell?_setCell_other _ _ _ _ (by simp)]; exact h.c4, fun j => by rw [World.frozen?_setCell]; exact h.z j, by rw [World.size_setCell]; exact h.lt⟩
theorem WinAt.set3 {B : Nat} {s : ByteArray} {sz f u k : Nat} {W : World} (h : WinAt B s sz f u k W) (n : Nat) : WinAt B s sz f n k (W.setCell ⟨B, 3, none⟩ (.int .i64 n)) :=
  ⟨by rw [World.cell?_setCell_other _ _ _ _ (by simp)]; exact h.c0, by rw [World.cell?_setCell_other _ _ _ _ (by simp)]; exact h.c1, by rw [World.cell?_setCell_other _ _ _ _ (by simp)]; exact h.c2, World.cell?_setCell_same _ _ _ h.c3, by rw [World.cell?_setCell_other _ _ _ _ (by simp)]; exact h.c4, fun j => by rw [World.frozen?_setCell]; exact h.z j, by rw [World.size_setCell]; exact h.lt⟩
theorem WinAt.set4 {B : Nat} {s : ByteArray} {sz f u k : Nat} {W : World} (h : WinAt B s sz f u k W) (n : Nat) : WinAt B s sz f u n (W.setCell ⟨B, 4, none⟩ (.int .u32 n)) :=
  ⟨by rw [World.cell?_setCell_other _ _ _ _ (by simp)]; exact h.c0, by rw [World.cell?_setCell_other _ _ _ _ (by simp)]; exact h.c1, by rw [World.cell?_setCell_other _ _ _ _ (by simp)]; exact h.c2, by rw [World.cell?_setCell_other _ _ _ _ (by simp)]; exact h.c3, World.cell?_setCell_same _ _ _ h.c4, fun j => by rw [World.frozen?_setCell]; exact h.z j, by rw [World.size_setCell]; exact h.lt⟩
/-- Of what was there only the window's cells have turned. -/
structure WOut (B : Nat) (W W' : World) : Prop where
  out : FP.Out (fun j => j = B) W W'
  rest : ∀ j, 5 ≤ j → W'.cell? ⟨B, j, none⟩ = W.cell? ⟨B, j, none⟩
  kind : ∀ (cs : Array Value) (t : TypeId) (z : Nat × Nat), W.heap[B]? = some (Obj.cells cs t z) → ∃ cs', W'.heap[B]? = some (Obj.cells cs' t z)
theorem WOut.refl (B : Nat) (W : World) : WOut B W W := ⟨FP.Out.refl _ W, fun _ _ => rfl, fun cs _ _ h => ⟨cs, h⟩⟩
theorem WOut.drew {B : Nat} {a w : World} (h : WOut B a w) : WOut B a w.drew := ⟨h.out.drew, h.rest, h.kind⟩
theorem WOut.setCell {B : Nat} {a w : World} (h : WOut B a w) {o : Nat} (ho : o < 5) (u : Value) : WOut B a (w.setCell ⟨B, o, none⟩ u) :=
  ⟨h.out.setCell (p := ⟨B, o, none⟩) (fun _ => rfl) u, fun j hj => by rw [World.cell?_setCell_other _ _ _ _ (by intro e; injection e; omega)]; exact h.rest j hj, fun cs t z e => by
    obtain ⟨cs', e'⟩ := h.kind cs t z e
    exact ⟨cs'.setIfInBounds o u, by simp [World.setCell, Array.getElem?_modify, e']⟩⟩
theorem WOut.thenBelow {B : Nat} {a b c : World} (h : WOut B a b) (hlt : B < a.heap.size) (k : Below b.heap.size b c) : WOut B a c :=
  ⟨h.out.thenBelow k, fun j hj => (k.cell (p := ⟨B, j, none⟩) (Nat.lt_of_lt_of_le hlt h.out.size)).trans (h.rest j hj), fun cs t z e => by
    obtain ⟨cs', e'⟩ := h.kind cs t z e
    exact ⟨cs', (k.block B (Nat.lt_of_lt_of_le hlt h.out.size)).trans e'⟩⟩
theorem drew_out (W : World) (n : Nat) : Below W.heap.size W (W.drewN n) := ⟨rfl, rfl, rfl, Nat.le_refl _, fun _ _ => rfl⟩
abbrev ptr (B : Nat) : Value := .pointer (some ⟨B, 0, none⟩)
set_option maxRecDepth 100000 in
set_option maxHeartbeats 1600000 in
theorem shown_any (B : Nat) (s : ByteArray) (sz f u k : Nat) (W : World) (h : WinAt B s sz f u k W) (h1 : f ≤ u) (h2 : u ≤ s.size) :
    Calls Tryd.prog 37 #[ptr B] W fun r w' => r = .returned (.string (s.extract f u)) ∧ Below W.heap.size W w' := by
  obtain ⟨c0, c1, c2, c3, c4, z, lt⟩ := h
  have h1z : (f : Int) ≤ u := by omega
  have h2z : (u : Int) ≤ s.size := by omega
  have hsl : ∀ W, (Instr.slice 9 (.string s) (some (.int .i64 (f : Int))) (some (.int .i64 (u : Int))) none).run Tryd.prog W = .ok (.string (s.extract f u)) W := fun W => by
    rw [run_slice_string_if (w := W) 9 s .i64 .i64 (f : Int) (u : Int) Tryd.underlying9, if_pos (by omega), if_pos (by omega)]
    rfl
  clear z
  go_enter Tryd.func37, Tryd.ntmps37
  repeat (first | go_skip | go_guarded | go_step | go_upon)
  go_quiet (fail)
  rename_i nq
  have hb := drew_out W nq
  generalize W.drewN nq = w1 at hb ⊢
  repeat (first | go_skip | go_guarded | go_step | go_upon)
  go_ret
  exact ⟨rfl, hb⟩
set_option maxRecDepth 100000 in
set_option maxHeartbeats 1600000 in
theorem over_any (B : Nat) (s : ByteArray) (sz f u k : Nat) (W : World) (h : WinAt B s sz f u k W) :
    Calls Tryd.prog 35 #[ptr B] W fun r w' => r = .returned (.bool (decide (f = s.size))) ∧ Below W.heap.size W w' := by
  obtain ⟨c0, c1, c2, c3, c4, z, lt⟩ := h
  obtain ⟨d, hd⟩ : ∃ d, decide (f = s.size) = d := ⟨_, rfl⟩
  have hq : ((f : Int) == (s.size : Int)) = d := by rw [← hd]; by_cases e : f = s.size <;> simp [e] <;> omega
  rw [hd]
  clear z hd
  go_enter Tryd.func35, Tryd.ntmps35
  repeat (first | go_skip | go_guarded | go_step | go_upon)
  go_quiet (fail)
  rename_i nq
  have hb := drew_out W nq
  generalize W.drewN nq = w1 at hb ⊢
  repeat (first | go_skip | go_guarded | go_step | go_upon)
  go_ret
  exact ⟨rfl, hb⟩
theorem u_min (u sz n : Nat) : min ((u : Int) + sz) n = ((min (u + sz) n : Nat) : Int) := by omega
set_option maxRecDepth 100000 in
set_option maxHeartbeats 1600000 in
theorem pass_any (B : Nat) (s : ByteArray) (sz f u k : Nat) (W : World) (h : WinAt B s sz f u k W) (hu : u ≤ s.size) (hz : sz ≤ 65536) (hs : s.size ≤ 1048576) :
    Calls Tryd.prog 34 #[ptr B] W fun r w' => r = .returned (.tuple #[]) ∧ WinAt B s sz u (min (u + sz) s.size) (weakL (s.extract u (min (u + sz) s.size)).data.toList) w' ∧ WOut B W w' := by
  obtain ⟨v, hv⟩ : ∃ v, min (u + sz) s.size = v := ⟨_, rfl⟩
  have hvs : v ≤ s.size := by omega
  have huv : u ≤ v := by omega
  have e : (if (s.size : Int) < (u : Int) + sz then (s.size : Int) else (u : Int) + sz) = (v : Int) := by split <;> omega
  rw [hv]
  have CW : Hid (∀ W, Calls Tryd.prog 30 #[.string (s.extract u v)] W fun r w' => r = .returned (.int .u32 (weakL (s.extract u v).data.toList : Nat)) ∧ W = w') := Lib.hid (fun W => HQ.weak_all (s.extract u v) W (by rw [Lib.size_eq, take_of3, List.length_take]; unfold maxLen; omega))
  obtain ⟨k2, hk2⟩ : ∃ k2, weakL (s.extract u v).data.toList = k2 := ⟨_, rfl⟩
  rw [hk2] at CW ⊢
  have he := Lib.hid e
  clear hk2 hv e
  have HW := Lib.hid h
  have HLT := Lib.hid h.lt
  obtain ⟨c0, c1, c2, c3, c4, z, lt⟩ := h
  have z2 := z 2
  have z3 := z 3
  have z4 := z 4
  clear z
  go_enter Tryd.func34, Tryd.ntmps34
  repeat (first | go_skip | go_guarded | go_step | go_upon)
  go_region
  rw [he.out]
  have HW1 : Hid (WinAt B s sz u v k ((W.setCell ⟨B, 2, none⟩ (.int .i64 u)).setCell ⟨B, 3, none⟩ (.int .i64 v)).drew) := Lib.hid (by
    obtain ⟨d0, d1, d2, d3, d4, dz, dl⟩ := (HW.out.set2 u).set3 v
    exact ⟨d0, d1, d2, d3, d4, dz, dl⟩)
  have HO1 : Hid (WOut B W ((W.setCell ⟨B, 2, none⟩ (.int .i64 u)).setCell ⟨B, 3, none⟩ (.int .i64 v)).drew) := Lib.hid (((WOut.refl B W).setCell (o := 2) (by decide) _).setCell (o := 3) (by decide) _).drew
  clear c0 c1 c2 c3 c4 z2 z3 z4 lt he HW hu hz
  generalize ((W.setCell ⟨B, 2, none⟩ (.int .i64 u)).setCell ⟨B, 3, none⟩ (.int .i64 v)).drew = W1 at HW1 HO1 ⊢
  repeat (first | go_skip | go_guarded | go_step | go_upon)
  refine (shown_any B s sz u v k W1 HW1.out huv hvs).mono ?_
  rintro r W2 ⟨rfl, hb⟩
  simp only []
  have HW2 := Lib.hid (HW1.out.below hb)
  have HO2 := Lib.hid (HO1.out.thenBelow HLT.out hb)
  clear hb
  repeat (first | go_skip | go_guarded | go_step | go_upon)
  refine (CW.out W2).mono ?_
  rintro r W3 ⟨rfl, rfl⟩
  simp only []
  obtain ⟨d0, d1, d2, d3, d4, z, lt⟩ := HW2.out
  have z4 := z 4
  clear z
  repeat (first | go_skip | go_guarded | go_step | go_upon)
  go_end0
  exact ⟨rfl, HW2.out.set4 k2, HO2.out.setCell (o := 4) (by decide) _⟩
theorem ext_cons {s : ByteArray} {f u : Nat} (h1 : f < u) (h2 : u ≤ s.size) : (s.extract f u).data.toList = s.data.toList.getD f 0 :: (s.extract (f + 1) u).data.toList := by
  have hl := size_data s
  rw [take_of3, take_of3, List.drop_eq_getElem_cons (by omega), show u - f = (u - (f + 1)) + 1 by omega, List.take_succ_cons, List.getD_eq_getElem?_getD, List.getElem?_eq_getElem (by omega)]
  rfl
theorem ext_snoc {s : ByteArray} {f u : Nat} (h1 : f ≤ u) (h2 : u < s.size) : (s.extract f (u + 1)).data.toList = (s.extract f u).data.toList ++ [s.data.toList.getD u 0] := by
  have hl := size_data s
  rw [take_of3, take_of3, show u + 1 - f = (u - f) + 1 by omega, List.take_add_one]
  congr 1
  rw [List.getElem?_drop, show f + (u - f) = u by omega, List.getD_eq_getElem?_getD, List.getElem?_eq_getElem (by omega)]
  rfl
theorem ext_len {s : ByteArray} {f u : Nat} (h2 : u ≤ s.size) : (s.extract f u).data.toList.length = u - f := by
  have hl := size_data s
  rw [take_of3, List.length_take, List.length_drop]
  omega
theorem roll_in {s : ByteArray} {f u : Nat} (h1 : f < u) (h2 : u < s.size) : rollL (weakL (s.extract f u).data.toList) ((u - f : Nat) : Int) (s.data.toList.getD f 0) (s.data.toList.getD u 0) = (weakL (s.extract (f + 1) (u + 1)).data.toList : Nat) := by
  have h := weak_rolls (s.data.toList.getD f 0) (s.data.toList.getD u 0) (s.extract (f + 1) u).data.toList
  rw [← ext_cons h1 (by omega), ← ext_snoc (by omega) h2, ext_len (by omega), show u - (f + 1) + 1 = u - f by omega] at h
  exact h
theorem roll_out {s : ByteArray} {f u : Nat} (h1 : f < u) (h2 : u ≤ s.size) : rollL (weakL (s.extract f u).data.toList) ((u - f : Nat) : Int) (s.data.toList.getD f 0) 0 = (weakL ((s.extract (f + 1) u).data.toList ++ [0]) : Nat) := by
  have h := weak_rolls (s.data.toList.getD f 0) 0 (s.extract (f + 1) u).data.toList
  rw [← ext_cons h1 h2, ext_len h2, show u - (f + 1) + 1 = u - f by omega] at h
  exact h
theorem short_nat (a t b : Nat) (ha : a < 65536) (hb : b < 65536) (h : (b + a) % 65536 = t) : (((a + 65536 * t : Nat) : Int) - ((a + 65536 * t : Nat) : Int) * 65536 % 4294967296) % 4294967296 = ((a + 65536 * b : Nat) : Int) := by
  have e : ((a + 65536 * t : Nat) : Int) * 65536 % 4294967296 = 65536 * a := by omega
  rw [e]
  omega
theorem short_is (r : List UInt8) : ((weakL (r ++ [0]) : Int) - (weakL (r ++ [0]) : Int) * 65536 % 4294967296) % 4294967296 = (weakL r : Nat) := by
  have h1 := sumA_snoc r 0
  have h2 := sumB_snoc r 0
  have e : (0 : UInt8).toNat = 0 := rfl
  unfold weakL
  rw [h1, h2, e]
  exact short_nat _ _ _ (Nat.mod_lt _ (by decide)) (Nat.mod_lt _ (by decide)) (by omega)
theorem idx_byte (p : ByteArray) (i : Nat) (h : i < p.size) (z : Int) (hz : z = i) :
    ∀ W, (Instr.index 9 (.string p) (.int .i64 z)).run Tryd.prog W = .ok (.int .u8 ((p.data.toList.getD i 0).toNat : Nat)) W := by
  subst hz
  intro W
  have h0 : 0 ≤ (i : Int) ∧ (i : Int) < (p.size : Int) := by omega
  rw [run_index_string W 9 p .i64 (i : Int) Tryd.underlying9, dif_pos h0]
  have e := Lib.data_getElem? p i h
  rw [List.getD_eq_getElem?_getD, e]
  rfl
set_option maxRecDepth 100000 in
set_option maxHeartbeats 1600000 in
theorem shorter_any (r : List UInt8) (W : World) :
    Calls Tryd.prog 55 #[.int .u32 (weakL (r ++ [0]) : Nat)] W fun e w' => e = .returned (.int .u32 (weakL r : Nat)) ∧ W = w' := by
  have HE := Lib.hid (short_is r)
  have hl := weak_lt (r ++ [0])
  obtain ⟨q, hq⟩ : ∃ q, weakL (r ++ [0]) = q := ⟨_, rfl⟩
  obtain ⟨p, hp⟩ : ∃ p, weakL r = p := ⟨_, rfl⟩
  rw [hq, hp] at HE
  rw [hq] at hl ⊢
  rw [hp]
  clear hq hp
  have hlz : (q : Int) < 4294967296 := by omega
  clear hl
  go_enter Tryd.func55, Tryd.ntmps55
  repeat (first | go_skip | go_guarded | go_step | go_upon)
  go_ret
  exact ⟨congrArg (fun z => Ending.returned (Value.int .u32 z)) HE.out, rfl⟩
set_option maxRecDepth 100000 in
set_option maxHeartbeats 1600000 in
theorem roll_win (B : Nat) (s : ByteArray) (sz f u : Nat) (W : World) (h : WinAt B s sz f u (weakL (s.extract f u).data.toList) W) (h1 : f < u) (h2 : u ≤ s.size) (hs : s.size ≤ 1048576) :
    Calls Tryd.prog 38 #[ptr B] W fun r w' => r = .returned (.tuple #[]) ∧ WinAt B s sz (f + 1) (min (u + 1) s.size) (weakL (s.extract (f + 1) (min (u + 1) s.size)).data.toList) w' ∧ WOut B W w' := by
  have HW := Lib.hid h
  have HLT := Lib.hid h.lt
  obtain ⟨m, hm⟩ : ∃ m : Nat, (u : Int) - f = m := ⟨u - f, by omega⟩
  have hmn : u - f = m := by omega
  have hmw : IntKind.i64.wrap (m : Int) = m := by rw [IntKind.wrap_i64]; omega
  have i1 := idx_byte s f (by omega) (f : Int) rfl
  have hvl := weak_lt (s.extract f u).data.toList
  by_cases hlt : u < s.size
  · have hr := roll_in h1 hlt
    rw [show min (u + 1) s.size = u + 1 by omega]
    have i2 := idx_byte s u (by omega) (u : Int) rfl
    obtain ⟨k, hk⟩ : ∃ k, weakL (s.extract f u).data.toList = k := ⟨_, rfl⟩
    obtain ⟨k2, hk2⟩ : ∃ k2, weakL (s.extract (f + 1) (u + 1)).data.toList = k2 := ⟨_, rfl⟩
    obtain ⟨x, hx⟩ : ∃ x, s.data.toList.getD f 0 = x := ⟨_, rfl⟩
    obtain ⟨y, hy⟩ : ∃ y, s.data.toList.getD u 0 = y := ⟨_, rfl⟩
    rw [hk, hk2, hx, hy, hmn] at hr
    rw [hx] at i1
    rw [hy] at i2
    rw [hk] at HW hvl
    rw [hk2]
    obtain ⟨f1, hf1⟩ : ∃ f1, f1 = f + 1 := ⟨_, rfl⟩
    obtain ⟨u1, hu1⟩ : ∃ u1, u1 = u + 1 := ⟨_, rfl⟩
    rw [← hf1, ← hu1]
    have hf1z : (f : Int) + 1 = f1 := by omega
    have hu1z : (u : Int) + 1 = u1 := by omega
    have CR : Hid (∀ W, Calls Tryd.prog 54 #[.int .u32 k, .int .i64 m, .int .u8 x.toNat, .int .u8 y.toNat] W fun r w' => r = .returned (.int .u32 (k2 : Nat)) ∧ W = w') := Lib.hid (fun W => by
      have h := HQ.roll_any k (m : Int) x y W hvl (by omega) (by omega)
      rw [hr] at h
      exact h)
    obtain ⟨c0, c1, c2, c3, c4, z, lt⟩ := HW.out
    have z2 := z 2
    have hltz : (u : Int) < s.size := by omega
    clear z h hr hvl hmn hk hk2 hx hy hf1 hu1
    go_enter Tryd.func38, Tryd.ntmps38
    repeat (first | go_skip | go_guarded | go_step | go_upon)
    go_quiet (fail)
    rename_i nq
    have HW1 : Hid (WinAt B s sz f u k (W.drewN nq)) := Lib.hid (HW.out.below (drew_out W nq))
    have HO1 : Hid (WOut B W (W.drewN nq)) := Lib.hid ((WOut.refl B W).thenBelow HLT.out (drew_out W nq))
    clear c0 c1 c2 c3 c4 z2 lt HW
    generalize W.drewN nq = W1 at HW1 HO1 ⊢
    obtain ⟨c0, c1, c2, c3, c4, z, lt⟩ := HW1.out
    have z2 := z 2
    clear z
    repeat (first | go_skip | go_guarded | go_step | go_upon)
    have HW2 : Hid (WinAt B s sz f1 u k (W1.setCell ⟨B, 2, none⟩ (.int .i64 f1))) := Lib.hid (HW1.out.set2 f1)
    have HO2 : Hid (WOut B W (W1.setCell ⟨B, 2, none⟩ (.int .i64 f1))) := Lib.hid (HO1.out.setCell (o := 2) (by decide) _)
    clear c0 c1 c2 c3 c4 z2 lt HW1 HO1
    generalize W1.setCell ⟨B, 2, none⟩ (.int .i64 f1) = W2 at HW2 HO2 ⊢
    obtain ⟨c0, c1, c2, c3, c4, z, lt⟩ := HW2.out
    clear z
    go_quiet (fail)
    have HW3 : Hid (WinAt B s sz f1 u k (W2.drewN nq)) := Lib.hid (HW2.out.below (drew_out W2 nq))
    have HO3 : Hid (WOut B W (W2.drewN nq)) := Lib.hid (HO2.out.thenBelow HLT.out (drew_out W2 nq))
    clear c0 c1 c2 c3 c4 lt HW2 HO2
    generalize W2.drewN nq = W3 at HW3 HO3 ⊢
    obtain ⟨c0, c1, c2, c3, c4, z, lt⟩ := HW3.out
    have z4 := z 4
    clear z
    repeat (first | go_skip | go_guarded | go_step | go_upon)
    refine wp_region_noPanic ?_
    with_reducible refine QT.region_mix (S := fun W' => WinAt B s sz f1 u k W') [(true, 0), (true, 1), (true, 2), (true, 3), (true, 4), (true, 5), (true, 6), (true, 7), (true, 8), (true, 9), (true, 10), (true, 11), (true, 12), (true, 13), (true, 14), (true, 15), (false, 16)] 17 (by kernel_rfl) (by kernel_rfl) ?_ ?_ ?_
    · exact fun _ _ _ _ _ h => h
    · exact HW3.out.below (Below.refl _ _).drew
    intro _
    simp only [QT.pickM, List.filterMap_cons, List.filterMap_nil, List.getElem?_cons_succ, List.getElem?_cons_zero, Option.map_some, List.drop_succ_cons, List.drop_zero]
    clear c0 c1 c2 c3 c4 z4 lt
    iterate 16 (refine QT.wpMix_take _ (by rfl) (by intro w' hSw; obtain ⟨c0, c1, c2, c3, c4, z, lt⟩ := hSw; go_simp; first | done | rfl) ?_; try simp only [Act.put, List.setIfInBounds_toArray, List.set_cons_zero, List.set_cons_succ])
    intro K' hK
    rw [if_pos (by rfl)]
    go_simp
    refine (CR.out _).mono ?_
    rintro r W4 ⟨rfl, rfl⟩
    simp only []
    have HW4 : Hid (WinAt B s sz f1 u k W3.drew) := Lib.hid (HW3.out.below (Below.refl _ _).drew)
    have HO4 : Hid (WOut B W W3.drew) := Lib.hid HO3.out.drew
    refine hK.out _ _ HW4.out ?_
    clear hK K'
    try simp only [Act.put, List.setIfInBounds_toArray, List.set_cons_zero, List.set_cons_succ]
    refine QT.wpMix_nil ?_
    generalize W3.drew = W4 at HW4 HO4 ⊢
    obtain ⟨c0, c1, c2, c3, c4, z, lt⟩ := HW4.out
    have z4 := z 4
    have z3 := z 3
    clear z
    repeat (first | go_skip | go_guarded | go_step | go_upon)
    refine NoPanic.normal ?_
    repeat (first | go_skip | go_guarded | go_step | go_upon)
    refine bodyPost_ret (results_none rfl _ _ _) rfl ?_
    exact ⟨rfl, (HW4.out.set4 k2).set3 u1, (HO4.out.setCell (o := 4) (by decide) _).setCell (o := 3) (by decide) _⟩
  · have hr := roll_out h1 h2
    rw [show min (u + 1) s.size = u by omega]
    obtain ⟨k, hk⟩ : ∃ k, weakL (s.extract f u).data.toList = k := ⟨_, rfl⟩
    obtain ⟨q, hq⟩ : ∃ q, weakL ((s.extract (f + 1) u).data.toList ++ [0]) = q := ⟨_, rfl⟩
    have CS : Hid (∀ W, Calls Tryd.prog 55 #[.int .u32 (weakL ((s.extract (f + 1) u).data.toList ++ [0]) : Nat)] W fun e w' => e = .returned (.int .u32 (weakL (s.extract (f + 1) u).data.toList : Nat)) ∧ W = w') := Lib.hid (fun W => shorter_any _ W)
    obtain ⟨k2, hk2⟩ : ∃ k2, weakL (s.extract (f + 1) u).data.toList = k2 := ⟨_, rfl⟩
    obtain ⟨x, hx⟩ : ∃ x, s.data.toList.getD f 0 = x := ⟨_, rfl⟩
    rw [hk, hq, hx, hmn] at hr
    rw [hx] at i1
    rw [hk] at HW hvl
    rw [hk2]
    rw [hq, hk2] at CS
    have CR : Hid (∀ W, Calls Tryd.prog 54 #[.int .u32 k, .int .i64 m, .int .u8 x.toNat, .int .u8 0] W fun r w' => r = .returned (.int .u32 (q : Nat)) ∧ W = w') := Lib.hid (fun W => by
      have h := HQ.roll_any k (m : Int) x 0 W hvl (by omega) (by omega)
      rw [hr] at h
      exact h)
    obtain ⟨f1, hf1⟩ : ∃ f1, f1 = f + 1 := ⟨_, rfl⟩
    rw [← hf1]
    have hf1z : (f : Int) + 1 = f1 := by omega
    obtain ⟨c0, c1, c2, c3, c4, z, lt⟩ := HW.out
    have z2 := z 2
    have hltz : ¬ (u : Int) < s.size := by omega
    clear z h hr hvl hmn hk hk2 hx hf1 hq
    go_enter Tryd.func38, Tryd.ntmps38
    repeat (first | go_skip | go_guarded | go_step | go_upon)
    go_quiet (fail)
    rename_i nq
    have HW1 : Hid (WinAt B s sz f u k (W.drewN nq)) := Lib.hid (HW.out.below (drew_out W nq))
    have HO1 : Hid (WOut B W (W.drewN nq)) := Lib.hid ((WOut.refl B W).thenBelow HLT.out (drew_out W nq))
    clear c0 c1 c2 c3 c4 z2 lt HW
    generalize W.drewN nq = W1 at HW1 HO1 ⊢
    obtain ⟨c0, c1, c2, c3, c4, z, lt⟩ := HW1.out
    have z2 := z 2
    clear z
    repeat (first | go_skip | go_guarded | go_step | go_upon)
    have HW2 : Hid (WinAt B s sz f1 u k (W1.setCell ⟨B, 2, none⟩ (.int .i64 f1))) := Lib.hid (HW1.out.set2 f1)
    have HO2 : Hid (WOut B W (W1.setCell ⟨B, 2, none⟩ (.int .i64 f1))) := Lib.hid (HO1.out.setCell (o := 2) (by decide) _)
    clear c0 c1 c2 c3 c4 z2 lt HW1 HO1
    generalize W1.setCell ⟨B, 2, none⟩ (.int .i64 f1) = W2 at HW2 HO2 ⊢
    obtain ⟨c0, c1, c2, c3, c4, z, lt⟩ := HW2.out
    clear z
    go_quiet (fail)
    have HW3 : Hid (WinAt B s sz f1 u k (W2.drewN nq)) := Lib.hid (HW2.out.below (drew_out W2 nq))
    have HO3 : Hid (WOut B W (W2.drewN nq)) := Lib.hid (HO2.out.thenBelow HLT.out (drew_out W2 nq))
    clear c0 c1 c2 c3 c4 lt HW2 HO2
    generalize W2.drewN nq = W3 at HW3 HO3 ⊢
    obtain ⟨c0, c1, c2, c3, c4, z, lt⟩ := HW3.out
    have z4 := z 4
    clear z
    repeat (first | go_skip | go_guarded | go_step | go_upon)
    refine (CR.out _).mono ?_
    rintro r W4 ⟨rfl, rfl⟩
    simp only []
    repeat (first | go_skip | go_guarded | go_step | go_upon)
    refine (CS.out _).mono ?_
    rintro r W4 ⟨rfl, rfl⟩
    simp only []
    repeat (first | go_skip | go_guarded | go_step | go_upon)
    go_end0
    exact ⟨rfl, HW3.out.set4 k2, HO3.out.setCell (o := 4) (by decide) _⟩
end DM
end Go.Proofs.YtmpmmebmhffaeaaDoor
