/- Layer 16: a sender's Put; which calls may send. -/
import Derived.Test.YtdkfoakmjeealaaQMxOutB
set_option linter.all false
set_option maxRecDepth 100000
set_option maxHeartbeats 25600000
namespace Go.Proofs.Ytdkfoakmjeealaa
open Go.RowKit Go.Lib Go.BigFrame
namespace MX
open OM FP

theorem go_new (W : World) (t : List UInt8) (a : Value) (ha : txt t = a) :
    ∀ (j : Nat) (u : Value), (goC (newC t))[j]? = some u → (W.alloc (.cells #[.int .i64 0, .bool false, a, .int .i64 0] 79)).cell? ((⟨W.heap.size, 0, none⟩ : Addr).add j) = some u := by
  subst ha
  have hr := heap_alloc_new W (.cells #[.int .i64 0, .bool false, txt t, .int .i64 0] 79)
  intro j u hu
  have e : (⟨W.heap.size, 0, none⟩ : Addr).add j = ⟨W.heap.size, j, none⟩ := by simp [Addr.add]; omega
  rw [e, row_cell hr]
  match j with
  | 0 => exact hu
  | 1 => exact hu
  | 2 => exact hu
  | 3 => exact hu
  | j + 4 => cases hu
/-- What a Put leaves. -/
def PutPost (b : Nat) (W S : Int) (cs : List Cl) (v : Value) (t : List UInt8) (w : World) (r : Ending) (w' : World) : Prop :=
  if cs.length < 64 ∧ t.length ≤ 65536 then r = .returned (.int .i64 (cs.length : Nat)) ∧ ∃ v', OutA b W S (cs ++ [newC t]) v' w' ∧ Out (mo b v) w w' ∧ (v'.ownBlock = v.ownBlock ∨ ∃ g, v'.ownBlock = some g ∧ w.heap.size ≤ g)
  else r = .returned (.int .i64 (-1)) ∧ w' = w
set_option maxRecDepth 100000 in
set_option maxHeartbeats 3200000 in
theorem Put_any (b : Nat) (W S : Int) (cs : List Cl) (v : Value) (t : List UInt8) (w : World) (h : OutA b W S cs v w) (hm : t.length ≤ 9223372036854775807) :
    Calls Try.prog 9 #[ptr b, txt t] w (PutPost b W S cs v t w) := by
  obtain ⟨i0, hi, hz0, hz1, hz2⟩ := info_parts infoG
  obtain ⟨ao, k, rfl, -⟩ := owns_view h.own
  have c0 := (row_cell (j := 0) h.row).trans rfl
  have f0 := row_frz h.row 0
  have hnm := owns_len h.own
  have hbl := (Array.getElem?_eq_some_iff.1 h.row).1
  have hnb := h.ne
  obtain ⟨n, hn⟩ : ∃ n, cs.length = n := ⟨_, rfl⟩
  obtain ⟨T, hT⟩ : ∃ T : ByteArray, ⟨t.toArray⟩ = T := ⟨_, rfl⟩
  have hTz : T.size = t.length := by rw [← hT, Lib.size_eq]
  obtain ⟨z, hz⟩ : ∃ z, t.length = z := ⟨_, rfl⟩
  have HX := Lib.hid (show txt t = .string T by unfold txt; rw [hT])
  have HN := Lib.hid hn
  have H := Lib.hid h
  have HO := Lib.hid (owns_below h.own ((Below.refl _ _).alloc (Nat.le_refl _) (.cells #[.int .i64 0, .bool false, .string T, .int .i64 0] 79)))
  have HNew := Lib.hid (go_new w t (.string T) HX.out)
  have HLe : Hid ((gosC cs).length = n * 4) := Lib.hid (by unfold gosC; rw [rows_len goC_len, hn])
  unfold PutPost
  rw [hz] at hm hTz ⊢
  rw [hn] at c0 hnm HO hnb ⊢
  rw [HX.out]
  have hzz : (z : Int) ≤ 9223372036854775807 := by omega
  by_cases h1 : 64 ≤ n
  · simp only [if_neg (show ¬ (n < 64 ∧ z ≤ 65536) by omega)]
    have h1z : (64 : Int) ≤ n := by omega
    clear h hn hT hz hi
    go_enter Try.func9, Try.ntmps9
    repeat (first | go_skip | go_guarded | go_step | go_upon)
    go_ret
    exact ⟨rfl, rfl⟩
  · have h1z : ¬ (64 : Int) ≤ n := by omega
    by_cases h2 : 65536 < z
    · simp only [if_neg (show ¬ (n < 64 ∧ z ≤ 65536) by omega)]
      have h2z : (65536 : Int) < z := by omega
      clear h hn hT hz hi
      go_enter Try.func9, Try.ntmps9
      repeat (first | go_skip | go_guarded | go_step | go_upon)
      go_ret
      exact ⟨rfl, rfl⟩
    · simp only [if_pos (show n < 64 ∧ z ≤ 65536 by omega)]
      have h2z : ¬ (65536 : Int) < z := by omega
      have h3z : (n : Int) < 64 := by omega
      clear h hn hT hz
      go_enter Try.func9, Try.ntmps9
      repeat ((fail_if_success (at_builtin)); first | go_skip | go_guarded | go_step | go_upon)
      at_builtin
      refine wpList_append_own_at _ rfl _ _ 71 rfl 0 79 i0 (.agg #[.int .i64 0, .bool false, .string ByteArray.empty, .int .i64 0]) 4 40 Try.underlying71 hi hz0 hz1 hz2 rfl (by decide) _ _ _ rfl HO.out ⟨w.heap.size, 0, none⟩ 1 1 (goC (newC t)) rfl rfl HNew.out (goC_one _) (by unfold maxLen; omega) (by omega) (Nat.zero_le _) ?_
      intro v' w1 hown hgr hnil hat
      have r1 := (hgr.block b (by simp; omega) (fun e => hnb e.symm)).trans ((((Below.refl w.heap.size w).alloc (Nat.le_refl _) (.cells #[.int .i64 0, .bool false, .string T, .int .i64 0] 79)).block b hbl).trans H.out.row)
      have g0 := (row_cell (j := 0) r1).trans rfl
      have gf := row_frz r1 0
      have R1 := Lib.hid r1
      have OW := Lib.hid hown
      have GR := Lib.hid hgr
      have AT := Lib.hid hat
      obtain ⟨a', c', rfl, -⟩ := owns_view hown
      clear r1 hown hgr hnil hat
      repeat (first | go_skip | go_guarded | go_step | go_upon)
      go_ret
      refine ⟨by go_num, _, ⟨row_set R1.out _, ?_⟩, (((Out.refl _ w).alloc _).grown GR.out (fun k e _ => .inr e)).setCell (p := ⟨b, 0, none⟩) (fun _ => .inl rfl) _, ?_⟩
      · unfold gosC
        rw [List.length_append, List.length_singleton, rows_snoc, HN.out]
        exact own_same OW.out (fun g e => heap_set_ne (fun e2 => own_ne OW.out R1.out (by decide) (e2 ▸ e)))
      · rcases AT.out with e | e
        · exact .inl e
        · exact .inr ⟨_, e, by simp⟩
end MX
end Go.Proofs.Ytdkfoakmjeealaa
