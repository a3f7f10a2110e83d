
/- Layer 9: the contracts of the document's reader's calls Num, Text, Count, End, over lists. -/
import Derived.Test.YtdkfoakmjeealaaQMxRf
import Derived.Deep.RegionWith
set_option linter.all false
set_option maxRecDepth 100000
set_option maxHeartbeats 25600000
namespace Go.Proofs.Ytdkfoakmjeealaa
open Go.RowKit Go.Lib
namespace RR
open CP AP

/-- The document's reader, by what is left and its fault. -/
def At (bk : Nat) (r : Rd) (w : World) : Prop := ∃ (s : ByteArray) (a : Nat), RefAt bk s a (r.2 : Nat) w ∧ s.data.toList.drop a = r.1 ∧ a ≤ s.size ∧ s.size ≤ 140737488355328
theorem At.out {bk : Nat} {S : Nat → Prop} {r : Rd} {w w' : World} (h : At bk r w) (hb : FP.Out S w w') (hS : ¬ S bk) : At bk r w' := by
  obtain ⟨s, a, h1, h2, h3, h4⟩ := h
  exact ⟨s, a, h1.out hb hS, h2, h3, h4⟩
theorem At.lt {bk : Nat} {r : Rd} {w : World} (h : At bk r w) : bk < w.heap.size := by
  obtain ⟨s, a, h1, _⟩ := h
  exact h1.lt
def NPost (bk : Nat) (a : Nat × Rd) (w : World) (r : Ending) (w' : World) : Prop := r = .returned (.int .i64 (a.1 : Nat)) ∧ At bk a.2 w' ∧ FP.Out (· = bk) w w'
def TPost (bk : Nat) (a : List UInt8 × Rd) (w : World) (r : Ending) (w' : World) : Prop := r = .returned (.string ⟨a.1.toArray⟩) ∧ At bk a.2 w' ∧ FP.Out (· = bk) w w'
theorem RefAt.set1 {bk : Nat} {s : ByteArray} {a : Nat} {f : Int} {w : World} (h : RefAt bk s a f w) (b : Nat) : RefAt bk s b f (w.setCell ⟨bk, 1, none⟩ (.int .i64 (b : Nat))) :=
  ⟨by rw [World.cell?_setCell_other _ _ _ _ (by simp)]; exact h.c0, World.cell?_setCell_same _ _ _ h.c1, by rw [World.cell?_setCell_other _ _ _ _ (by simp)]; exact h.c2, by rw [World.frozen?_setCell]; exact h.f1, by rw [World.frozen?_setCell]; exact h.f2, by rw [World.size_setCell]; exact h.lt⟩
theorem RefAt.set2 {bk : Nat} {s : ByteArray} {a : Nat} {f : Int} {w : World} (h : RefAt bk s a f w) (e : Int) : RefAt bk s a e (w.setCell ⟨bk, 2, none⟩ (.int .i64 e)) :=
  ⟨by rw [World.cell?_setCell_other _ _ _ _ (by simp)]; exact h.c0, by rw [World.cell?_setCell_other _ _ _ _ (by simp)]; exact h.c1, World.cell?_setCell_same _ _ _ h.c2, by rw [World.frozen?_setCell]; exact h.f1, by rw [World.frozen?_setCell]; exact h.f2, by rw [World.size_setCell]; exact h.lt⟩
theorem RefAt.drew {bk : Nat} {s : ByteArray} {a : Nat} {f : Int} {w : World} (h : RefAt bk s a f w) : RefAt bk s a f w.drew := ⟨h.c0, h.c1, h.c2, h.f1, h.f2, h.lt⟩
/-- Behind a good reading: the place is put on. -/
theorem end_good {bk : Nat} {s : ByteArray} {a x z : Nat} {l : List UInt8} (hl : s.data.toList.drop a = l) (ha : a ≤ s.size) (hs : s.size ≤ 140737488355328) (hx : x ≤ l.length) (hz : a + x = z) {W : World} (h : RefAt bk s z 0 W) : At bk (l.drop x, 0) W := by
  subst hz
  refine ⟨s, a + x, h, by rw [← List.drop_drop, hl], ?_, hs⟩
  have := congrArg List.length hl
  rw [List.length_drop, ← Lib.size_eq] at this
  omega
theorem len_left {s : ByteArray} {a : Nat} {l : List UInt8} (hl : s.data.toList.drop a = l) (ha : a ≤ s.size) : l.length + a = s.size := by
  have := congrArg List.length hl
  rw [List.length_drop, ← Lib.size_eq] at this
  omega
set_option maxRecDepth 100000 in
set_option maxHeartbeats 1600000 in
theorem rend_all (bk : Nat) (r : Rd) (w : World) (h : At bk r w) : Calls Try.prog 51 #[.pointer (some ⟨bk, 0, none⟩)] w (fun e w' => e = .returned (.int .i64 ((CR.endR r : Nat) : Int)) ∧ FP.Out (fun _ => False) w w' ∧ At bk r w') := by
  obtain ⟨l, f⟩ := r
  obtain ⟨s, a, hat, hl, ha, hs⟩ := h
  simp only [] at hat hl
  have c0 := hat.c0
  have c1 := hat.c1
  have c2 := hat.c2
  have f1 := hat.f1
  have f2 := hat.f2
  have HA := Lib.hid hat
  have HL := Lib.hid hl
  have HA2 := Lib.hid ha
  have HS2 := Lib.hid hs
  have hll := len_left hl ha
  have HT := Lib.hid (show ∀ W, RefAt bk s a (f : Nat) W → At bk (l, f) W from fun W h => ⟨s, a, h, hl, ha, hs⟩)
  obtain ⟨n, hn⟩ : ∃ n, s.size = n := ⟨_, rfl⟩
  rw [hn] at hll hs ha
  have hnz : (n : Int) ≤ 140737488355328 := by omega
  clear hat hl
  by_cases hf : f = 0
  · subst hf
    by_cases hl0 : l = []
    · have hR : CR.endR (l, 0) = 0 := by unfold CR.endR; rw [if_neg (by simp), if_pos hl0]
      rw [hl0] at hll
      have hz : ¬ (a : Int) < n := by simp at hll; omega
      clear hl0
      rw [hR]
      have HR := Lib.hid hR
      clear hR
      go_enter Try.func51, Try.ntmps51
      repeat (first | go_skip | go_guarded | go_step | go_upon)
      go_region
      all_goals
        repeat (first | go_skip | go_guarded | go_step | go_upon)
        go_ret
        exact ⟨rfl, by first | exact FP.Out.refl _ _ | exact (FP.Out.refl _ _).drew, by first | exact HT.out _ HA.out | exact HT.out _ HA.out.drew⟩
    · have hR : CR.endR (l, 0) = 32 := by unfold CR.endR; rw [if_neg (by simp), if_neg hl0]
      have hz : (a : Int) < n := by have := List.length_pos_iff.2 hl0; omega
      clear hl0
      rw [hR]
      have HR := Lib.hid hR
      clear hR
      go_enter Try.func51, Try.ntmps51
      repeat (first | go_skip | go_guarded | go_step | go_upon)
      go_region
      all_goals
        repeat (first | go_skip | go_guarded | go_step | go_upon)
        go_ret
        exact ⟨rfl, by first | exact FP.Out.refl _ _ | exact (FP.Out.refl _ _).drew, by first | exact HT.out _ HA.out | exact HT.out _ HA.out.drew⟩
  · have hfz : ((f : Int) != 0) = true := by simpa using hf
    have hR : CR.endR (l, f) = f := by unfold CR.endR; rw [if_pos hf]
    rw [hR]
    have HR := Lib.hid hR
    clear hR hf
    go_enter Try.func51, Try.ntmps51
    repeat (first | go_skip | go_guarded | go_step | go_upon)
    go_ret
    exact ⟨rfl, FP.Out.refl _ _, HT.out _ HA.out⟩
set_option maxRecDepth 100000 in
set_option maxHeartbeats 1600000 in
theorem rnum_all (bk : Nat) (r : Rd) (w : World) (h : At bk r w) : Calls Try.prog 48 #[.pointer (some ⟨bk, 0, none⟩)] w (NPost bk (rNum r) w) := by
  obtain ⟨l, f⟩ := r
  obtain ⟨s, a, hat, hl, ha, hs⟩ := h
  simp only [] at hat hl
  have c0 := hat.c0
  have c1 := hat.c1
  have c2 := hat.c2
  have f1 := hat.f1
  have f2 := hat.f2
  have HA := Lib.hid hat
  have HL := Lib.hid hl
  have HA2 := Lib.hid ha
  have HS2 := Lib.hid hs
  have CN := Lib.hid (fun W => number_any s a W ha hs)
  clear hat
  by_cases hf : f = 0
  · subst hf
    by_cases he : (rd 0 0 l).2.2 = 0
    · have hR : rNum (l, 0) = ((rd 0 0 l).1, l.drop (rd 0 0 l).2.1, 0) := by
        unfold rNum
        rw [if_neg (by simp), if_neg (by simp [he])]
      have hN : numAt s.data.toList a = ((rd 0 0 l).1, a + (rd 0 0 l).2.1, 0) := by unfold numAt; rw [HL.out, if_pos he]
      obtain ⟨_, _, hwl, _⟩ := rd_one (l := l) (x := (rd 0 0 l).1) (w := (rd 0 0 l).2.1) (Prod.ext rfl (Prod.ext rfl he))
      obtain ⟨v, hv⟩ : ∃ v, (rd 0 0 l).1 = v := ⟨_, rfl⟩
      obtain ⟨x, hx⟩ : ∃ x, (rd 0 0 l).2.1 = x := ⟨_, rfl⟩
      rw [hv, hx] at hR hN
      rw [hx] at hwl
      rw [hN] at CN
      have HR := Lib.hid hR
      obtain ⟨z, hz⟩ : ∃ z : Nat, a + x = z := ⟨_, rfl⟩
      have HEnd : Hid (∀ W, RefAt bk s z 0 W → At bk (l.drop x, 0) W) := Lib.hid (fun W h => end_good hl ha hs hwl hz h)
      rw [hz] at CN
      clear he hR hN hv hx hwl hz hl ha hs
      go_enter Try.func48, Try.ntmps48
      repeat (first | go_skip | go_guarded | go_step | go_upon)
      go_region_with (go_at_call 63; refine (CN.out _).mono ?_; rintro r w1 ⟨rfl, rfl⟩; simp only [])
      all_goals
        repeat (first | go_skip | go_guarded | go_step | go_upon)
        go_ret
        rw [HR.out]
        exact ⟨rfl, HEnd.out _ (by first | exact (HA.out.set1 z).drew | exact HA.out.drew.set1 z | exact HA.out.set1 z), by first | exact FP.Out.refl _ _ | exact (FP.Out.refl _ _).drew | exact ((FP.Out.refl (· = bk) w).setCell (fun _ => rfl) _).drew | exact (FP.Out.refl (· = bk) w).drew.setCell (fun _ => rfl) _ | exact (FP.Out.refl (· = bk) w).setCell (fun _ => rfl) _⟩
    · obtain ⟨e, hE, hN⟩ : ∃ e : Nat, e ≠ 0 ∧ rd 0 0 l = (0, 0, e) := by
        rcases rd_err l 0 0 with h0 | h0 | h0
        · exact absurd h0 he
        · exact ⟨30, by decide, h0⟩
        · exact ⟨31, by decide, h0⟩
      have hR : rNum (l, 0) = (0, l, e) := by
        unfold rNum
        rw [if_neg (by simp), if_pos he, hN]
      have hN2 : numAt s.data.toList a = (0, 0, e) := by unfold numAt; rw [HL.out, if_neg he, hN]
      rw [hN2] at CN
      have HR := Lib.hid hR
      have hez : ((e : Int) != 0) = true := by simpa using hE
      have HEnd : Hid (∀ W, RefAt bk s a (e : Nat) W → At bk (l, e) W) := Lib.hid (fun W h => ⟨s, a, h, hl, ha, hs⟩)
      clear he hR hN hN2 hl ha hs hE
      go_enter Try.func48, Try.ntmps48
      repeat (first | go_skip | go_guarded | go_step | go_upon)
      go_region_with (go_at_call 63; refine (CN.out _).mono ?_; rintro r w1 ⟨rfl, rfl⟩; simp only [])
      all_goals
        repeat (first | go_skip | go_guarded | go_step | go_upon)
        go_ret
        rw [HR.out]
        exact ⟨rfl, HEnd.out _ (by first | exact (HA.out.set2 _).drew | exact HA.out.drew.set2 _ | exact HA.out.set2 _), by first | exact FP.Out.refl _ _ | exact (FP.Out.refl _ _).drew | exact ((FP.Out.refl (· = bk) w).setCell (fun _ => rfl) _).drew | exact (FP.Out.refl (· = bk) w).drew.setCell (fun _ => rfl) _ | exact (FP.Out.refl (· = bk) w).setCell (fun _ => rfl) _⟩
  · have hfz : ((f : Int) != 0) = true := by simpa using hf
    have hR : rNum (l, f) = (0, l, f) := by
      unfold rNum
      rw [if_pos hf]
    have HR := Lib.hid hR
    have HT := Lib.hid (show ∀ W, RefAt bk s a (f : Nat) W → At bk (l, f) W from fun W h => ⟨s, a, h, hl, ha, hs⟩)
    clear hR hf hl ha hs
    go_enter Try.func48, Try.ntmps48
    repeat (first | go_skip | go_guarded | go_step | go_upon)
    go_ret
    rw [HR.out]
    exact ⟨rfl, HT.out _ HA.out, FP.Out.refl _ _⟩
set_option maxRecDepth 100000 in
set_option maxHeartbeats 1600000 in
theorem rtext_all (bk : Nat) (mo : Nat) (r : Rd) (w : World) (h : At bk r w) : Calls Try.prog 49 #[.pointer (some ⟨bk, 0, none⟩), .int .i64 mo] w (TPost bk (rTxt mo r) w) := by
  obtain ⟨l, f⟩ := r
  obtain ⟨s, a, hat, hl, ha, hs⟩ := h
  simp only [] at hat hl
  have c0 := hat.c0
  have c1 := hat.c1
  have c2 := hat.c2
  have f1 := hat.f1
  have f2 := hat.f2
  have HA := Lib.hid hat
  have HL := Lib.hid hl
  have HA2 := Lib.hid ha
  have HS2 := Lib.hid hs
  have CN := Lib.hid (fun W => number_any s a W ha hs)
  have hll := len_left hl ha
  obtain ⟨n, hn⟩ : ∃ n, s.size = n := ⟨_, rfl⟩
  rw [hn] at hll
  have hn' : n ≤ 140737488355328 := by omega
  have hnz : (n : Int) ≤ 140737488355328 := by omega
  clear hat
  by_cases hf : f = 0
  · subst hf
    by_cases he : (rd 0 0 l).2.2 = 0
    · have hN : numAt s.data.toList a = ((rd 0 0 l).1, a + (rd 0 0 l).2.1, 0) := by unfold numAt; rw [HL.out, if_pos he]
      obtain ⟨_, _, hwl, h9⟩ := rd_one (l := l) (x := (rd 0 0 l).1) (w := (rd 0 0 l).2.1) (Prod.ext rfl (Prod.ext rfl he))
      have HC : Hid (cnt l mo 1 = if (mo : Int) < ((rd 0 0 l).1 : Nat) then (0, 0, 32) else if (l.length : Int) - ((rd 0 0 l).2.1 : Nat) < ((rd 0 0 l).1 : Nat) then (0, 0, 30) else rd 0 0 l) := Lib.hid (by unfold cnt; rw [if_neg (by simp [he])]; simp)
      have hrd : rd 0 0 l = ((rd 0 0 l).1, (rd 0 0 l).2.1, 0) := Prod.ext rfl (Prod.ext rfl he)
      obtain ⟨v, hv⟩ : ∃ v, (rd 0 0 l).1 = v := ⟨_, rfl⟩
      obtain ⟨x, hx⟩ : ∃ x, (rd 0 0 l).2.1 = x := ⟨_, rfl⟩
      rw [hv, hx] at hN HC hrd
      rw [hx] at hwl
      rw [hv] at h9
      rw [hrd] at HC
      rw [hN] at CN
      obtain ⟨z, hz⟩ : ∃ z : Nat, a + x = z := ⟨_, rfl⟩
      rw [hz] at CN
      have h9' : (v : Int) ≤ 9223372036854775807 := by
        have e9 : (128 : Nat) ^ 9 = 2 ^ 63 := by decide
        omega
      have hzn : (z : Int) ≤ n := by omega
      have hzl : (n : Int) - z = (l.length : Int) - x := by omega
      by_cases hm : (mo : Int) < v
      · have hR : rTxt mo (l, 0) = ([], l, 32) := by
          unfold rTxt
          rw [if_neg (by simp), HC.out, if_pos hm]
          simp
        have HR := Lib.hid hR
        have HEnd : Hid (∀ W, RefAt bk s a ((32 : Nat) : Int) W → At bk (l, 32) W) := Lib.hid (fun W h => ⟨s, a, h, hl, ha, hs⟩)
        clear he hR hN hv hx hwl hz hl ha hs h9 hrd hll hzl
        go_enter Try.func49, Try.ntmps49
        repeat (first | go_skip | go_guarded | go_step | go_upon)
        go_region_with (go_at_call 63; refine (CN.out _).mono ?_; rintro r w1 ⟨rfl, rfl⟩; simp only [])
        all_goals
          repeat (first | go_skip | go_guarded | go_step | go_upon)
          go_ret
          rw [HR.out]
          exact ⟨rfl, HEnd.out _ (by first | exact (HA.out.set2 _).drew | exact HA.out.drew.set2 _ | exact HA.out.set2 _), by first | exact FP.Out.refl _ _ | exact (FP.Out.refl _ _).drew | exact ((FP.Out.refl (· = bk) w).setCell (fun _ => rfl) _).drew | exact (FP.Out.refl (· = bk) w).drew.setCell (fun _ => rfl) _ | exact (FP.Out.refl (· = bk) w).setCell (fun _ => rfl) _⟩
      · by_cases hsh : (n : Int) - z < v
        · have hR : rTxt mo (l, 0) = ([], l, 30) := by
            have hC : cnt l mo 1 = (0, 0, 30) := by rw [HC.out, if_neg hm, if_pos (by omega)]
            unfold rTxt
            rw [if_neg (by simp), hC]
            simp
          have HR := Lib.hid hR
          have HEnd : Hid (∀ W, RefAt bk s a ((30 : Nat) : Int) W → At bk (l, 30) W) := Lib.hid (fun W h => ⟨s, a, h, hl, ha, hs⟩)
          clear he hR hN hv hx hwl hz hl ha hs h9 hrd hll hzl
          go_enter Try.func49, Try.ntmps49
          repeat (first | go_skip | go_guarded | go_step | go_upon)
          go_region_with (go_at_call 63; refine (CN.out _).mono ?_; rintro r w1 ⟨rfl, rfl⟩; simp only [])
          all_goals
            repeat (first | go_skip | go_guarded | go_step | go_upon)
            go_ret
            rw [HR.out]
            exact ⟨rfl, HEnd.out _ (by first | exact (HA.out.set2 _).drew | exact HA.out.drew.set2 _ | exact HA.out.set2 _), by first | exact FP.Out.refl _ _ | exact (FP.Out.refl _ _).drew | exact ((FP.Out.refl (· = bk) w).setCell (fun _ => rfl) _).drew | exact (FP.Out.refl (· = bk) w).drew.setCell (fun _ => rfl) _ | exact (FP.Out.refl (· = bk) w).setCell (fun _ => rfl) _⟩
        · have hR : rTxt mo (l, 0) = ((l.drop x).take v, l.drop (x + v), 0) := by
            have hC : cnt l mo 1 = (v, x, 0) := by rw [HC.out, if_neg hm, if_neg (by omega)]
            unfold rTxt
            rw [if_neg (by simp), hC]
            simp
          have HR := Lib.hid hR
          obtain ⟨y, hy⟩ : ∃ y : Nat, z + v = y := ⟨_, rfl⟩
          have hyn : (y : Int) ≤ n := by omega
          have hzy : (z : Int) ≤ y := by omega
          have hyz : (z : Int) + v = y := by omega
          have HEnd : Hid (∀ W, RefAt bk s y 0 W → At bk (l.drop (x + v), 0) W) := Lib.hid (fun W h => end_good hl ha hs (by omega) (by omega) h)
          have HTx : Hid (s.extract z y = ⟨((l.drop x).take v).toArray⟩) := Lib.hid (by
            apply ByteArray.ext
            apply Array.toList_inj.1
            rw [ByteArray.data_extract, Array.toList_extract, List.extract_eq_take_drop, ← hl, List.drop_drop, hz, ← hy]
            simp)
          clear he hR hN hv hx hwl hz hl ha hs h9 hrd hll hzl hy
          go_enter Try.func49, Try.ntmps49
          repeat (first | go_skip | go_guarded | go_step | go_upon)
          go_region_with (go_at_call 63; refine (CN.out _).mono ?_; rintro r w1 ⟨rfl, rfl⟩; simp only [])
          all_goals
            repeat (first | go_skip | go_guarded | go_step | go_upon)
            go_ret
            rw [HR.out]
            exact ⟨by rw [HTx.out]; rfl, HEnd.out _ (by first | exact (HA.out.set1 y).drew | exact HA.out.drew.set1 y | exact HA.out.set1 y), by first | exact FP.Out.refl _ _ | exact (FP.Out.refl _ _).drew | exact ((FP.Out.refl (· = bk) w).setCell (fun _ => rfl) _).drew | exact (FP.Out.refl (· = bk) w).drew.setCell (fun _ => rfl) _ | exact (FP.Out.refl (· = bk) w).setCell (fun _ => rfl) _⟩
    · obtain ⟨e, hE, hN⟩ : ∃ e : Nat, e ≠ 0 ∧ rd 0 0 l = (0, 0, e) := by
        rcases rd_err l 0 0 with h0 | h0 | h0
        · exact absurd h0 he
        · exact ⟨30, by decide, h0⟩
        · exact ⟨31, by decide, h0⟩
      have hR : rTxt mo (l, 0) = ([], l, e) := by
        have hC : cnt l mo 1 = (0, 0, e) := by unfold cnt; rw [if_pos he, hN]
        unfold rTxt
        rw [if_neg (by simp), hC]
        simp [hE]
      have hN2 : numAt s.data.toList a = (0, 0, e) := by unfold numAt; rw [HL.out, if_neg he, hN]
      rw [hN2] at CN
      have HR := Lib.hid hR
      have hez : ((e : Int) != 0) = true := by simpa using hE
      have hez0 : ((e : Int) == 0) = false := by simpa using hE
      have HEnd : Hid (∀ W, RefAt bk s a (e : Nat) W → At bk (l, e) W) := Lib.hid (fun W h => ⟨s, a, h, hl, ha, hs⟩)
      clear he hR hN hN2 hl ha hs hE hll
      go_enter Try.func49, Try.ntmps49
      repeat (first | go_skip | go_guarded | go_step | go_upon)
      go_region_with (go_at_call 63; refine (CN.out _).mono ?_; rintro r w1 ⟨rfl, rfl⟩; simp only [])
      all_goals
        repeat (first | go_skip | go_guarded | go_step | go_upon)
        go_ret
        rw [HR.out]
        exact ⟨rfl, HEnd.out _ (by first | exact (HA.out.set2 _).drew | exact HA.out.drew.set2 _ | exact HA.out.set2 _), by first | exact FP.Out.refl _ _ | exact (FP.Out.refl _ _).drew | exact ((FP.Out.refl (· = bk) w).setCell (fun _ => rfl) _).drew | exact (FP.Out.refl (· = bk) w).drew.setCell (fun _ => rfl) _ | exact (FP.Out.refl (· = bk) w).setCell (fun _ => rfl) _⟩
  · have hfz : ((f : Int) != 0) = true := by simpa using hf
    have hR : rTxt mo (l, f) = ([], l, f) := by
      unfold rTxt
      rw [if_pos hf]
    have HR := Lib.hid hR
    have HT := Lib.hid (show ∀ W, RefAt bk s a (f : Nat) W → At bk (l, f) W from fun W h => ⟨s, a, h, hl, ha, hs⟩)
    clear hR hf hl ha hs hll
    go_enter Try.func49, Try.ntmps49
    repeat (first | go_skip | go_guarded | go_step | go_upon)
    go_ret
    rw [HR.out]
    exact ⟨rfl, HT.out _ HA.out, FP.Out.refl _ _⟩
end RR
end Go.Proofs.Ytdkfoakmjeealaa
