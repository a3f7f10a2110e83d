/- Layer 4: the contract of the document's Table. -/
import Derived.Test.YtmpmmebmhffaeaaDoorQHashPrimes
import Derived.Test.YtmpmmebmhffaeaaDoorQHashBlock
import Derived.Test.YtmpmmebmhffaeaaDoorQHashSum
set_option linter.all false
set_option maxRecDepth 100000
set_option maxHeartbeats 25600000
namespace Go.Proofs.YtmpmmebmhffaeaaDoor
open Go.RowKit Go.Lib
namespace HX
open HP HS HR HQ

theorem one_cell32 (w : World) (z : Int) (t : TypeId) : ∀ (j : Nat) u, [Value.int .u32 z][j]? = some u → (w.alloc (.cells #[.int .u32 z] t)).cell? ((⟨w.heap.size, 0, none⟩ : Addr).add j) = some u := by
  intro j u hj
  match j, hj with
  | 0, hj =>
    simp at hj
    subst hj
    simp [Addr.add]
  | j + 1, hj => simp at hj
/-- Two slices that share no block. -/
def Apart (u v : Value) : Prop := ∀ k, u.ownBlock = some k → v.ownBlock ≠ some k
theorem Apart.symm {u v : Value} (h : Apart u v) : Apart v u := fun k h1 h2 => h k h2 h1
theorem run_app32 (w : World) (B : Nat) (ty : TypeId) (v : Value) (n : Nat) (xs : List Value) (hown : w.ownsRow B 31 1 v n xs) (ad : Addr) (c : Nat) (u : Value) (hnews : ∀ j y, [u][j]? = some y → w.cell? (ad.add j) = some y) (h1 : u.oneCell' = true)
    (hn : n ≤ 1000000) (hB : B ≤ w.heap.size) :
    ∃ v' w', (Builtin.append_ #[82, 82] ty #[v, .slice (some ad) 1 c]).run Tryd.prog w = .ok v' w' ∧ w'.ownsRow B 31 1 v' (n + 1) (xs ++ [u]) ∧ w.grownBy w' v.ownBlock ∧ ∀ k, v'.ownBlock = some k → v.ownBlock = some k ∨ w.heap.size ≤ k := by
  obtain ⟨i0, hi, hz0, hz1, hz2⟩ := info32
  have h1' : ∀ y ∈ [u], y.oneCell' = true := fun y hy => by rw [List.mem_singleton] at hy; rw [hy]; exact h1
  have hm : n + 1 ≤ maxLen := by unfold maxLen; omega
  obtain ⟨v', w', hr, h2, h3, _⟩ := run_append_own (P := Tryd.prog) w B 82 ty 31 i0 (.int .u32 0) 1 4 Tryd.underlying82 hi hz0 hz1 hz2 rfl (by decide) v n xs hown ad 1 c [u] rfl hnews h1' hm (by omega) hB
  refine ⟨v', w', hr, h2, h3, fun k hk => ?_⟩
  rcases hown.2 with ⟨rfl, rfl⟩ | ⟨g, cap, cur, rfl, hbg, hg, hnc, hcm, hcs, htake⟩
  · obtain ⟨v2, w2, hr2, h4, _⟩ := run_append_own (P := Tryd.prog) w w.heap.size 82 ty 31 i0 (.int .u32 0) 1 4 Tryd.underlying82 hi hz0 hz1 hz2 rfl (by decide) (.slice none 0 0) 0 [] (World.ownsRow_nil w _ _ _) ad 1 c [u] rfl hnews h1' hm (by omega) (Nat.le_refl _)
    rw [hr] at hr2
    cases hr2
    exact .inr (h4.lt k hk).1
  · by_cases hroom : n + 1 ≤ cap
    · have hr2 := run_append_room (P := Tryd.prog) w 82 ty 31 i0 Tryd.underlying82 hi g n cap cur hg ad 1 c [u] (by rw [hz1]; rfl) hnews h1' hroom (by rw [hz1, hcs]; simp; omega)
      rw [hr] at hr2
      cases hr2
      exact .inl hk
    · obtain ⟨v2, w2, hr2, h4, _⟩ := run_append_arg_grows (P := Tryd.prog) w 82 ty 31 i0 (.int .u32 0) 1 4 Tryd.underlying82 hi hz0 hz1 hz2 rfl (by decide) ⟨g, 0, none⟩ n cap xs hown.1 (hown.cells (g := g) rfl) ad 1 c [u] rfl hnews (by omega) hm (by omega)
      rw [hr] at hr2
      cases hr2
      exact .inr (h4.lt k hk).1
theorem wp_app32 {w : World} {o : Oper} {a : Act} {K : Act → World → Prop} {Q : Exit → Act → World → Prop} (s x : Operand)
    (ho : o.op = .call { callee := .builtin .append, args := #[s, x], argTypes := #[82, 82] }) (B : Nat) (v : Value) (n : Nat) (xs : List Value) (hs : a.eval s = v) (hown : w.ownsRow B 31 1 v n xs)
    (v2 : Value) (n2 : Nat) (ys : List Value) (h2 : w.ownsRow B 31 1 v2 n2 ys) (hap : Apart v v2) (ad : Addr) (c : Nat) (u : Value) (hx : a.eval x = .slice (some ad) 1 c) (hnews : ∀ j y, [u][j]? = some y → w.cell? (ad.add j) = some y) (h1 : u.oneCell' = true)
    (hn : n ≤ 1000000) (hB : B ≤ w.heap.size)
    (hK : ∀ v' w', w'.ownsRow B 31 1 v' (n + 1) (xs ++ [u]) → w'.ownsRow B 31 1 v2 n2 ys → Apart v' v2 → Below B w w' → K (a.put o.dst v') w') : o.wp Tryd.prog a w K Q := by
  obtain ⟨v', w', hr, e1, e2, e3⟩ := run_app32 w B o.type v n xs hown ad c u hnews h1 hn hB
  unfold Oper.wp execOp
  simp only [ho, resolve, invoke, builtin, Sem.run_bind, Sem.run_pure, Result.andThen_ok, List.map_toArray, List.map_cons, List.map_nil, hs, hx, hr]
  refine hK v' w' e1 (h2.kept e2 ?_) (fun k hk h4 => ?_) ((Below.refl _ _).grown e2 hB (fun k hk => (hown.lt k hk).1))
  · cases hv : v2.ownBlock with
    | none => exact .inl rfl
    | some k => exact .inr (fun e => hap k e.symm hv)
  · rcases e3 k hk with h5 | h5
    · exact hap k h5 h4
    · have := (h2.lt k h4).2
      omega
theorem wpList_app32 {w : World} {ops : Array Oper} {rest : List Oper} {o : Oper} {a : Act} {Q : Exit → Act → World → Prop} (hgd : o.guard = none) (s x : Operand)
    (ho : o.op = .call { callee := .builtin .append, args := #[s, x], argTypes := #[82, 82] }) (B : Nat) (v : Value) (n : Nat) (xs : List Value) (hs : a.eval s = v) (hown : w.ownsRow B 31 1 v n xs)
    (v2 : Value) (n2 : Nat) (ys : List Value) (h2 : w.ownsRow B 31 1 v2 n2 ys) (hap : Apart v v2) (ad : Addr) (c : Nat) (u : Value) (hx : a.eval x = .slice (some ad) 1 c) (hnews : ∀ j y, [u][j]? = some y → w.cell? (ad.add j) = some y) (h1 : u.oneCell' = true)
    (hn : n ≤ 1000000) (hB : B ≤ w.heap.size)
    (hK : ∀ v' w', w'.ownsRow B 31 1 v' (n + 1) (xs ++ [u]) → w'.ownsRow B 31 1 v2 n2 ys → Apart v' v2 → Below B w w' → wpList Tryd.prog ops Q rest (a.put o.dst v') w') : wpList Tryd.prog ops Q (o :: rest) a w :=
  wpList_plain hgd fun _ h' => wp_app32 s x ho B v n xs hs hown v2 n2 ys h2 hap ad c u hx hnews h1 hn hB fun v' w' q1 q2 q3 q4 => h' _ _ (hK v' w' q1 q2 q3 q4)
/-- The two tables, as far as they have come, in a world that has gone on. -/
structure Two (W0 : World) (s2 s3 : Value) (n2 n3 : Nat) (xs ys : List Value) (wr : World) : Prop where
  h : wr.ownsRow W0.heap.size 31 1 s2 n2 xs
  k : wr.ownsRow W0.heap.size 31 1 s3 n3 ys
  ap : Apart s2 s3
  b : Below W0.heap.size W0 wr
theorem Two.below {W0 : World} {s2 s3 : Value} {n2 n3 : Nat} {xs ys : List Value} {wr w' : World} (h : Two W0 s2 s3 n2 n3 xs ys wr) (hb : Below wr.heap.size wr w') : Two W0 s2 s3 n2 n3 xs ys w' := by
  refine ⟨h.h.kept (row := none) ⟨hb.os, hb.tape, hb.output, hb.size, fun k hk _ => hb.block k hk⟩ ?_, h.k.kept (row := none) ⟨hb.os, hb.tape, hb.output, hb.size, fun k hk _ => hb.block k hk⟩ ?_, h.ap, Below.trans h.b (hb.mono h.b.size)⟩
  · cases s2.ownBlock <;> simp
  · cases s3.ownBlock <;> simp
theorem Two.alloc {W0 : World} {s2 s3 : Value} {n2 n3 : Nat} {xs ys : List Value} {wr : World} (h : Two W0 s2 s3 n2 n3 xs ys wr) (o : Obj) : Two W0 s2 s3 n2 n3 xs ys (wr.alloc o) := h.below ((Below.refl _ _).alloc (Nat.le_refl _) _)
/-- The two tables so far. -/
def hL (i : Nat) : List Value := ((primesN 8).take i).map fun p => Value.int .u32 (fracN p 2 : Nat)
def kL (i : Nat) : List Value := ((primesN 64).take i).map fun p => Value.int .u32 (fracN p 3 : Nat)
def TabInv (w : World) (s2 s3 s5 : Value) (wr : World) : Prop :=
  ∃ i : Nat, i ≤ 64 ∧ s5 = .int .i64 i ∧ Two w s2 s3 (min i 8) i (hL i) (kL i) wr
def TabPost (w : World) (r : Ending) (w' : World) : Prop :=
  ∃ vh vk, r = .returned (.tuple #[vh, vk]) ∧ Sl32 w' vh (stL HS.start) ∧ Sl32 w' vk roundK ∧ Below w.heap.size w w'
theorem primes8 (i : Nat) (h : i < 8) : (primesN 8)[i]? = (primesN 64)[i]? := by
  have : ∀ i, i < 8 → (primesN 8)[i]? = (primesN 64)[i]? := by decide +kernel
  exact this i h
theorem primes8_len : (primesN 8).length = 8 := by decide +kernel
theorem hL_up {i q : Nat} (h : (primesN 8)[i]? = some q) : hL (i + 1) = hL i ++ [Value.int .u32 (fracN q 2 : Nat)] := by
  unfold hL
  rw [List.take_add_one, h, List.map_append]
  rfl
theorem kL_up {i q : Nat} (h : (primesN 64)[i]? = some q) : kL (i + 1) = kL i ++ [Value.int .u32 (fracN q 3 : Nat)] := by
  unfold kL
  rw [List.take_add_one, h, List.map_append]
  rfl
theorem hL_past {i : Nat} (h : 8 ≤ i) : hL (i + 1) = hL i := by
  unfold hL
  rw [List.take_of_length_le (by rw [primes8_len]; omega), List.take_of_length_le (by rw [primes8_len]; omega)]
theorem hL_all : hL 64 = (stL HS.start).map fun x : Nat => Value.int .u32 x := by
  rw [show stL HS.start = firstN by rw [first_is, start_is], hL, firstN, List.take_of_length_le (by rw [primes8_len]; decide), List.map_map]
  rfl
theorem kL_all : kL 64 = roundK.map fun x : Nat => Value.int .u32 x := by
  rw [← round_is, kL, roundN, List.take_of_length_le (by rw [primes_len]; decide), List.map_map]
  rfl
set_option maxRecDepth 100000 in
set_option maxHeartbeats 1600000 in
theorem rtable_any (w : World) : Calls Tryd.prog 32 #[] w (TabPost w) := by
  go_enter Tryd.func32, Tryd.ntmps32
  go_wp2_with (go_at_call 49; refine (rprimes_any w).mono ?_; rintro r w1 ⟨g, c, rfl, hW, hg, hb⟩; have HW := Lib.hid hW; have HB := Lib.hid hb; clear hW hb)
  go_loopw [2, 3, 5] (fun s2 s3 s5 wr => TabInv w1 s2 s3 s5 wr) (fun _ _ s5 _ => 64 - (Go.RowKit.intOf s5).toNat)
  case atStart => exact ⟨0, Nat.zero_le _, rfl, ⟨World.ownsRow_nil _ _ _ _, World.ownsRow_nil _ _ _ _, fun k h => by simp [Value.ownBlock] at h, Below.refl _ _⟩⟩
  case round =>
    obtain ⟨i, hi, rfl, hT⟩ := hrel
    have HT := Lib.hid hT
    have hsz := hT.b.size
    clear hT
    by_cases hlt : i < 64
    · have hz : (i : Int) < 64 := by omega
      obtain ⟨q, hq⟩ : ∃ q, (primesN 64)[i]? = some q := ⟨(primesN 64)[i]'(by rw [primes_len]; exact hlt), List.getElem?_eq_getElem _⟩
      have hqs := primes_small q (List.mem_of_getElem? hq)
      have cq : wr.cell? ⟨g, i, none⟩ = some (.int .u64 (q : Nat)) := by
        have h := HW.out i (by rw [primes_len]; exact hlt)
        rw [wd_get hq] at h
        exact (HT.out.b.cell (p := ⟨g, i, none⟩) hg).trans h
      have HQ8 : Hid (i < 8 → (primesN 8)[i]? = some q) := Lib.hid (fun h => (primes8 i h).trans hq)
      have HQ := Lib.hid hq
      have C3 : Hid (∀ w, Calls Tryd.prog 50 #[.int .u64 q, .int .i64 3] w fun e w' => e = .returned (.int .u32 (fracN q 3 : Nat)) ∧ Below w.heap.size w w') := Lib.hid (fun w => rfrac_any q 3 w (above_any q 3 hqs (by decide)))
      have C2 : Hid (∀ w, Calls Tryd.prog 50 #[.int .u64 q, .int .i64 2] w fun e w' => e = .returned (.int .u32 (fracN q 2 : Nat)) ∧ Below w.heap.size w w') := Lib.hid (fun w => rfrac_any q 2 w (above_any q 2 hqs (by decide)))
      clear hq hqs
      by_cases h8 : i < 8
      · have hz8 : (i : Int) < 8 := by omega
        go_wp2_with fail
        refine (C2.out wr).mono ?_
        rintro r w2 ⟨rfl, hb2⟩
        have HT2 := Lib.hid (HT.out.below hb2)
        have cq2 := (hb2.cell (p := ⟨g, i, none⟩) (Nat.lt_of_lt_of_le hg hsz)).trans cq
        have hs2 := HT2.out.b.size
        clear hb2
        go_wp2_with (at_builtin; refine wpList_app32 rfl _ _ rfl w1.heap.size _ (min i 8) (hL i) rfl (HT2.out.alloc _).h _ i (kL i) (HT2.out.alloc _).k HT2.out.ap ⟨w2.heap.size, 0, none⟩ 1 (.int .u32 (fracN q 2 : Nat)) rfl (one_cell32 _ _ _) rfl (by omega) (by simp; omega) ?_; intro v3 w3 q1 q2 q3 q4; have HT3 : Hid (Two w1 v3 u3 (min i 8 + 1) i (hL (i + 1)) (kL i) w3) := Lib.hid ⟨by rw [hL_up (HQ8.out h8)]; exact q1, q2, q3, Below.trans (HT2.out.alloc _).b q4⟩; have hs3 := HT3.out.b.size; have cq3 : w3.cell? ⟨g, i, none⟩ = some (.int .u64 (q : Nat)) := (q4.cell (p := ⟨g, i, none⟩) hg).trans (World.cell?_alloc_lt' w2 _ (Nat.lt_of_lt_of_le hg hs2) cq2); clear q1 q2 q3 q4)
        refine (C3.out w3).mono ?_
        rintro r w4 ⟨rfl, hb4⟩
        have HT4 := Lib.hid (HT3.out.below hb4)
        have hs4 := HT4.out.b.size
        clear hb4
        go_wp2_with (at_builtin; refine wpList_app32 rfl _ _ rfl w1.heap.size _ i (kL i) rfl (HT4.out.alloc _).k _ (min i 8 + 1) (hL (i + 1)) (HT4.out.alloc _).h HT4.out.ap.symm ⟨w4.heap.size, 0, none⟩ 1 (.int .u32 (fracN q 3 : Nat)) rfl (one_cell32 _ _ _) rfl (by omega) (by simp; omega) ?_; intro v5 w5 q1 q2 q3 q4; have HT5 : Hid (Two w1 v3 v5 (min i 8 + 1) (i + 1) (hL (i + 1)) (kL (i + 1)) w5) := Lib.hid ⟨q2, by rw [kL_up HQ.out]; exact q1, q3.symm, Below.trans (HT4.out.alloc _).b q4⟩; clear q1 q2 q3 q4)
        go_roundw
        case rel => exact ⟨i + 1, by omega, by go_num, by rw [show min (i + 1) 8 = min i 8 + 1 by omega]; exact HT5.out⟩
        case measure => simp [Go.RowKit.intOf]; omega
      · have hz8 : ¬ (i : Int) < 8 := by omega
        go_wp2_with fail
        refine (C3.out wr).mono ?_
        rintro r w4 ⟨rfl, hb4⟩
        have HT4 := Lib.hid (HT.out.below hb4)
        have hs4 := HT4.out.b.size
        clear hb4
        go_wp2_with (at_builtin; refine wpList_app32 rfl _ _ rfl w1.heap.size _ i (kL i) rfl (HT4.out.alloc _).k _ (min i 8) (hL i) (HT4.out.alloc _).h HT4.out.ap.symm ⟨w4.heap.size, 0, none⟩ 1 (.int .u32 (fracN q 3 : Nat)) rfl (one_cell32 _ _ _) rfl (by omega) (by simp; omega) ?_; intro v5 w5 q1 q2 q3 q4; have HT5 : Hid (Two w1 u2 v5 (min i 8) (i + 1) (hL i) (kL (i + 1)) w5) := Lib.hid ⟨q2, by rw [kL_up HQ.out]; exact q1, q3.symm, Below.trans (HT4.out.alloc _).b q4⟩; clear q1 q2 q3 q4)
        go_roundw
        case rel => exact ⟨i + 1, by omega, by go_num, by rw [hL_past (by omega), show min (i + 1) 8 = min i 8 by omega]; exact HT5.out⟩
        case measure => simp [Go.RowKit.intOf]; omega
    · have hz : ¬ (i : Int) < 64 := by omega
      have ei : i = 64 := by omega
      subst ei
      go_wp2_with fail
      have hS := HT.out.h
      have hK := HT.out.k
      obtain ⟨gh, ch, rfl, hF⟩ := free_own (W := wr) (B := w1.heap.size) (l := stL HS.start) (by rw [← hL_all]; exact hS) (by rw [start_is]; rfl) (by decide)
      obtain ⟨gk, ck, rfl, hG⟩ := free_own (W := wr) (B := w1.heap.size) (l := roundK) (by rw [← kL_all]; exact hK) (by decide +kernel) (by decide)
      go_ret2
      exact ⟨_, _, rfl, hF.sl, hG.sl, Below.trans HB.out (HT.out.b.mono HB.out.size)⟩
end HX
end Go.Proofs.YtmpmmebmhffaeaaDoor
