/- Layer 16: how a receiver's calls lie in memory; NewIn, call. -/
import Derived.Test.YtdkfoakmjeealaaQMxPass
import Derived.Lib.AppendStr
import Derived.Laws.OwnMore
import Derived.Laws.BytesArg
import Derived.Laws.IdiomStrings
set_option linter.all false
set_option maxRecDepth 100000
set_option maxHeartbeats 25600000
namespace Go.Proofs.Ytdkfoakmjeealaa
open Go.RowKit Go.Lib Go.BigFrame
namespace MX
open OM FP

def bytesC (l : List UInt8) : List Value := l.map fun b => .int .u8 b.toNat
theorem str_bytes (l : List UInt8) : strCells ⟨l.toArray⟩ = bytesC l := rfl
def intV (z : Int) : Value := .int .i64 z
def coC (p : Rc × Value) : List Value := [.int .i64 (p.1.text.length : Nat), .bool p.1.done, p.2]
theorem coC_len (p : Rc × Value) : (coC p).length = 3 := rfl
structure InA (b : Nat) (ps : List (Rc × Value)) (ds : List Int) (v d : Value) (w : World) : Prop where
  row : w.heap[b]? = some (.cells #[v, d] 87 (0, 0))
  own : w.ownsRow 0 95 3 v ps.length (ps.flatMap coC)
  don : w.ownsRow 0 3 1 d ds.length (ds.map intV)
  tx : ∀ p ∈ ps, w.ownsRow 0 5 1 p.2 p.1.text.length (bytesC p.1.text)
  apart : ∀ (i j : Nat) (p q : Rc × Value), i ≠ j → ps[i]? = some p → ps[j]? = some q → ∀ g, p.2.ownBlock = some g → q.2.ownBlock ≠ some g
/-- The blocks that a receiver lies in. -/
def mi (b : Nat) (ps : List (Rc × Value)) (v d : Value) (k : Nat) : Prop := k = b ∨ v.ownBlock = some k ∨ d.ownBlock = some k ∨ ∃ p ∈ ps, p.2.ownBlock = some k
theorem InA.lt {b : Nat} {ps : List (Rc × Value)} {ds : List Int} {v d : Value} {w : World} (h : InA b ps ds v d w) : ∀ k, mi b ps v d k → k < w.heap.size := fun k hk => by
  rcases hk with rfl | hk | hk | ⟨p, hp, hk⟩
  · exact (Array.getElem?_eq_some_iff.1 h.row).1
  · exact (h.own.lt k hk).2
  · exact (h.don.lt k hk).2
  · exact ((h.tx p hp).lt k hk).2
theorem InA.keep {b : Nat} {ps : List (Rc × Value)} {ds : List Int} {v d : Value} {w w' : World} {N : Nat → Prop} (h : InA b ps ds v d w) (ho : Out N w w') (hN : ∀ k, mi b ps v d k → ¬ N k) : InA b ps ds v d w' :=
  ⟨ho.row h.row (hN b (.inl rfl)), own_same h.own (fun g hg => ho.block g (h.lt g (.inr (.inl hg))) (hN g (.inr (.inl hg)))), own_same h.don (fun g hg => ho.block g (h.lt g (.inr (.inr (.inl hg)))) (hN g (.inr (.inr (.inl hg))))),
    fun p hp => own_same (h.tx p hp) (fun g hg => ho.block g (h.lt g (.inr (.inr (.inr ⟨p, hp, hg⟩)))) (hN g (.inr (.inr (.inr ⟨p, hp, hg⟩))))), h.apart⟩
theorem InA.below {b : Nat} {ps : List (Rc × Value)} {ds : List Int} {v d : Value} {w w' : World} (h : InA b ps ds v d w) (hb : Below w.heap.size w w') : InA b ps ds v d w' :=
  h.keep (Out.of_below hb) (fun k hk hk2 => by have := h.lt k hk; omega)
/-- Where a call lies. -/
theorem InA.at {b : Nat} {ps : List (Rc × Value)} {ds : List Int} {v d : Value} {w : World} (h : InA b ps ds v d w) {i : Nat} {p : Rc × Value} (hc : ps[i]? = some p) :
    ∃ g k cur, v = .slice (some ⟨g, 0, none⟩) ps.length k ∧ w.heap[g]? = some (.cells cur 95 (0, 0)) ∧ cur.toList.take (ps.flatMap coC).length = ps.flatMap coC ∧ g ≠ b ∧
      cur[i * 3]? = some (.int .i64 (p.1.text.length : Nat)) ∧ cur[i * 3 + 1]? = some (.bool p.1.done) ∧ cur[i * 3 + 2]? = some p.2 := by
  have hi := (List.getElem?_eq_some_iff.1 hc).1
  obtain ⟨g, k, cur, rfl, hr, ht, hl, hm⟩ := own_parts h.own (by omega)
  have q := fun j (hj : j < 3) => rows_at (f := coC) coC_len hc hj
  refine ⟨g, k, cur, rfl, hr, ht, fun e => own_ne h.own h.row (by decide) (by rw [← e]; rfl), ?_, ?_, ?_⟩
  · exact cur_at ht ((q 0 (by decide)).trans rfl)
  · exact cur_at ht ((q 1 (by decide)).trans rfl)
  · exact cur_at ht ((q 2 (by decide)).trans rfl)
theorem infoC : (Try.prog.info? 95).map (fun i => (i.zero, i.size, i.bytes)) = some (some (.agg #[.int .i64 0, .bool false, .slice none 0 0]), 3, 40) := by kernel_rfl
theorem zero_rows : (madeCells (Value.agg #[.int .i64 0, .bool false, .slice none 0 0]).cells (64 * 3)).toList = (List.replicate 64 ((noR, .slice none 0 0) : Rc × Value)).flatMap coC := by kernel_rfl
set_option maxRecDepth 100000 in
set_option maxHeartbeats 1600000 in
theorem newIn_any (w : World) :
    Calls Try.prog 13 #[] w fun r w' => ∃ b v, r = .returned (ptr b) ∧ InA b (List.replicate 64 (noR, .slice none 0 0)) [] v (.slice none 0 0) w' ∧ Below w.heap.size w w' ∧ ∀ k, mi b (List.replicate 64 (noR, .slice none 0 0)) v (.slice none 0 0) k → w.heap.size ≤ k := by
  obtain ⟨i0, hi, hz0, hz1, hz2⟩ := info_parts infoC
  obtain ⟨w1, hr, ho, hg⟩ := run_makeSlice_full (P := Try.prog) w w.heap.size 83 95 i0 _ 3 Try.underlying83 hi hz0 hz1 .i64 .i64 64 (by decide) (by rw [hz2]; decide) (by decide) (Nat.le_refl _)
  rw [zero_rows] at ho
  have hb : Below w.heap.size w w1 := (Below.refl _ _).grown hg (Nat.le_refl _) (fun k hk => by cases hk)
  have HO := Lib.hid ho
  have HB := Lib.hid hb
  have hr2 : (Instr.makeSlice 83 (.int .i64 64) (.int .i64 64)).run Try.prog w = .ok (.slice (some ⟨w.heap.size, 0, none⟩) 64 64) w1 := hr
  clear hr ho hg hb
  go_enter Try.func13, Try.ntmps13
  repeat (first | go_skip | go_guarded | go_step | go_upon)
  go_ret
  have hs := HB.out.size
  refine ⟨w1.heap.size, .slice (some ⟨w.heap.size, 0, none⟩) 64 64, rfl, ⟨heap_alloc_new w1 _, ?_, World.ownsRow_nil _ _ _ _, fun p hp => ?_, fun i j p q hij hp hq g hg => ?_⟩, HB.out.alloc hs _, fun k hk => ?_⟩
  · rw [List.length_replicate]
    exact owns_base (owns_below HO.out ((Below.refl _ _).alloc (Nat.le_refl _) _)) 0 (Nat.zero_le _)
  · rw [List.mem_replicate] at hp
    rw [hp.2]
    exact World.ownsRow_nil _ _ _ _
  · have := (List.mem_replicate.1 (List.mem_of_getElem? hp)).2
    rw [this] at hg
    cases hg
  · rcases hk with rfl | hk | hk | ⟨p, hp, hk⟩
    · exact hs
    · have hk : some w.heap.size = some k := hk
      injection hk with hk
      omega
    · cases hk
    · rw [(List.mem_replicate.1 hp).2] at hk
      cases hk
set_option maxRecDepth 100000 in
set_option maxHeartbeats 1600000 in
theorem callC_at (b : Nat) (ps : List (Rc × Value)) (ds : List Int) (d : Value) (g k i : Nat) (w : World) (h : InA b ps ds (.slice (some ⟨g, 0, none⟩) ps.length k) d w) (hi : i < ps.length) :
    Calls Try.prog 35 #[ptr b, .int .i64 (i : Nat)] w fun r w' => r = .returned (.pointer (some ⟨g, i * 3, none⟩)) ∧ w' = w := by
  have c0 := (row_cell (j := 0) h.row).trans rfl
  obtain ⟨n, hn⟩ : ∃ n, ps.length = n := ⟨_, rfl⟩
  have hnm := owns_len h.own
  rw [hn] at c0 hi hnm
  have hiz : (i : Int) < n := by omega
  have h1 : ¬ (n : Int) ≤ i := by omega
  have h0 : ¬ (i : Int) < 0 := by omega
  unfold maxLen at hnm
  clear h hn
  go_enter Try.func35, Try.ntmps35
  repeat (first | go_skip | go_guarded | go_step | go_upon)
  go_ret
  exact ⟨rfl, rfl⟩
set_option maxRecDepth 100000 in
set_option maxHeartbeats 1600000 in
theorem callC_no (b : Nat) (ps : List (Rc × Value)) (ds : List Int) (v d : Value) (z : Int) (w : World) (h : InA b ps ds v d w) (hz : z < 0 ∨ (ps.length : Int) ≤ z) :
    Calls Try.prog 35 #[ptr b, .int .i64 z] w fun r w' => r = .returned (.pointer none) ∧ w' = w := by
  obtain ⟨ao, c, rfl, -⟩ := owns_view h.own
  have c0 := (row_cell (j := 0) h.row).trans rfl
  obtain ⟨n, hn⟩ : ∃ n, ps.length = n := ⟨_, rfl⟩
  rw [hn] at c0 hz
  by_cases h0 : z < 0
  · clear h hn hz
    go_enter Try.func35, Try.ntmps35
    repeat (first | go_skip | go_guarded | go_step | go_upon)
    go_ret
    exact ⟨rfl, rfl⟩
  · have h1 : (n : Int) ≤ z := hz.resolve_left h0
    clear h hn hz
    go_enter Try.func35, Try.ntmps35
    repeat (first | go_skip | go_guarded | go_step | go_upon)
    go_ret
    exact ⟨rfl, rfl⟩
/-- Where the bytes lie behind an append of a text: where they lay, or in a new block. -/
theorem run_app_str {P : Program} (w : World) (base : Nat) (t u ty e : TypeId) (i : TypeInfo) (ht : P.underlying t = some (.slice e)) (hu : P.underlying u = some .string) (hi : P.info? e = some i) (hz : i.zero = some (.int .u8 0))
    (hsize : i.size = 1) (hby : i.bytes = 1) (v : Value) (n : Nat) (xs : List Value) (hown : w.ownsRow base e 1 v n xs) (s : ByteArray) (hb : n + s.size ≤ 1048576) (hbase : base ≤ w.heap.size) :
    ∃ v' w', (Builtin.append_ #[t, u] ty #[v, .string s]).run P w = .ok v' w' ∧ w'.ownsRow base e 1 v' (n + s.size) (xs ++ strCells s) ∧ w.grownBy w' v.ownBlock ∧ (v'.ownBlock = v.ownBlock ∨ v'.ownBlock = some w.heap.size) := by
  obtain ⟨v', w', hr, h2, h3, h4⟩ := run_append_own_string (P := P) w base t u ty e i ht hu hi hz hsize hby v n xs hown s (by unfold maxLen; omega) (by omega) hbase
  refine ⟨v', w', hr, h2, h3, ?_⟩
  have hxl : xs.length = n := by simpa using hown.1
  rcases hown.2 with ⟨rfl, rfl⟩ | ⟨g, cap, cur, rfl, hbg, hg, hnc, hcm, hcs, htake⟩
  · by_cases hm : s.size = 0
    · exact .inl (by rw [h4.2 ⟨rfl, hm⟩])
    · have hx := run_append_nil_string (P := P) w t u ty e i (.int .u8 0) ht hu hi hz s (by omega) (by omega) (by rw [hby]; omega)
      rw [hr] at hx
      injection hx with hx _
      exact .inr (by rw [hx]; rfl)
  · by_cases hroom : n + s.size ≤ cap
    · have hcs' : cur.size = cap := by simpa using hcs
      have hx := run_append_room_string (P := P) w t u ty e i ht hu hi hsize g n cap cur hg s hroom (by omega)
      rw [hr] at hx
      injection hx with hx _
      exact .inl (by rw [hx]; rfl)
    · have holds : ∀ j u, xs[j]? = some u → w.cell? ((⟨g, 0, none⟩ : Addr).add j) = some u := hown.cells (g := g) rfl
      have hx := run_append_grow_string (P := P) w t u ty e i (.int .u8 0) ht hu hi hz ⟨g, 0, none⟩ n cap xs (by rw [hsize]; simpa using hxl) holds s (by omega) (by omega) (by rw [hby]; exact growslice_fits (by omega) (by omega))
      rw [hr] at hx
      injection hx with hx _
      exact .inr (by rw [hx]; rfl)
end MX
end Go.Proofs.Ytdkfoakmjeealaa
