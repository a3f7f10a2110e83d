/- Layer 2: the contract of readElement. -/
import Derived.Test.YtechekdiadpmoaaDoorQGlobBr
set_option linter.all false
set_option maxRecDepth 100000
set_option maxHeartbeats 25600000
namespace Go.Proofs.YtechekdiadpmoaaDoor
open Go.RowKit Go.Lib
namespace GR
open GP GM NF

theorem heap_set3 (w : World) (b k : Nat) (x y z : Value) (h : k ≠ b) : (((w.setCell ⟨b, 0, none⟩ x).setCell ⟨b, 1, none⟩ y).setCell ⟨b, 2, none⟩ z).heap[k]? = w.heap[k]? := by
  rw [Below.heap_setCell _ _ _ _ h, Below.heap_setCell _ _ _ _ h, Below.heap_setCell _ _ _ _ h]
theorem others_set3 {w : World} {b : Nat} {m n : Bool} {v : Value} (h : Tri w b m n v) (x y z : Value) : OthersKept 141 none w (((w.setCell ⟨b, 0, none⟩ x).setCell ⟨b, 1, none⟩ y).setCell ⟨b, 2, none⟩ z) := by
  intro k o hk _ ho
  rw [heap_set3]
  · exact hk
  · rintro rfl
    unfold Tri at h
    rw [hk] at h
    exact ho _ _ (Option.some.inj h)
theorem lit_span {W : World} {g a b : Nat} (h : W.heap[g]? = some (.cells #[.int .i32 a, .int .i32 b] 168 (0, 0))) : LSp W (.slice (some ⟨g, 0, none⟩) 1 1) [(a, b)] :=
  ⟨rfl, .inr ⟨g, 1, _, rfl, Nat.zero_le _, h, Nat.le_refl _, by unfold maxLen; omega, rfl, rfl⟩⟩
theorem new_at {W : World} {o : Obj} {g : Nat} (hg : W.heap.size = g) : (W.alloc o).heap[g]? = some o := by subst hg; exact heap_alloc_new _ _
theorem el_star {l : List UInt8} (h : l.head? = some 42) : elL l = some (.star, 1) := by unfold elL; rw [if_pos h]
theorem el_any {l : List UInt8} (h : l.head? = some 63) : elL l = some (.set true [], 1) := by unfold elL; rw [if_neg (by rw [h]; decide), if_pos h]
theorem el_br {l : List UInt8} (h : l.head? = some 91) : elL l = brL l := by unfold elL; rw [if_neg (by rw [h]; decide), if_neg (by rw [h]; decide), if_pos h]
theorem el_rune {l : List UInt8} (h1 : l.head? ≠ some 42) (h2 : l.head? ≠ some 63) (h3 : l.head? ≠ some 91) : elL l = if (runeL l).2 = 0 then none else some (.set false [((runeL l).1, (runeL l).1)], (runeL l).2) := by unfold elL; rw [if_neg h1, if_neg h2, if_neg h3]
theorem el_post {r : Option (El × Nat)} {w w' : World} {t : ET} {e : El} {k : Nat} (hr : r = some (e, k)) (hb : Below w.heap.size w w') (hl : LEl w' t e) : ElPost r w (.returned (.tuple #[elV t, .int .i64 k])) w' :=
  ⟨t, k, rfl, hb, hl.val, fun h => (by rw [hr] at h; cases h), fun x hx => by rw [hr] at hx; cases hx; exact ⟨rfl, hl⟩⟩
set_option maxRecDepth 100000 in
set_option maxHeartbeats 3200000 in
theorem readElement_any (s : ByteArray) (w : World) (he : Env w) (hs : s.size ≤ 400) (h1 : 1 ≤ s.size) :
    Calls Tryd.prog 96 #[.string s] w (ElPost (elL s.data.toList) w) := by
  have He := Lib.hid he
  clear he
  have hz1 : (0 : Int) < s.size := by omega
  have hw1 : Below w.heap.size w (w.alloc (.cells #[.bool false, .bool false, .slice none 0 0] 141)) := (Below.refl _ _).alloc (Nat.le_refl _) _
  have ht1 : Tri (w.alloc (.cells #[.bool false, .bool false, .slice none 0 0] 141)) w.heap.size false false (.slice none 0 0) := heap_alloc_new _ _
  have Hw1 := Lib.hid hw1
  have Ht1 := Lib.hid ht1
  clear hw1 ht1
  cases hl : s.data.toList with
  | nil => rw [Lib.size_eq, hl] at h1; simp at h1
  | cons x r =>
    obtain ⟨_, hp, hx⟩ := cons_of hl
    rw [← hl]
    have hhead : s.data.toList.head? = some x := by rw [hl]; rfl
    by_cases h42 : x = 42
    · have b42 : ((((s[0]).toNat : Nat) : Int) == 42) = true := by rw [hx]; exact byte_yes h42
      have HF := Lib.hid (el_star (l := s.data.toList) (by rw [hhead, h42]))
      clear hl hx h42 hhead
      go_enter Tryd.func96, Tryd.ntmps96
      go_wp2_with fail
      refine bodyPost_ret (v := .tuple #[.agg #[.bool true, .bool false, .slice none 0 0], .int .i64 1]) ?_ rfl (el_post (t := ⟨true, false, .slice none 0 0⟩) HF.out ?_ rfl)
      · rw [results_cell_tmp rfl]
        go_simp
      · repeat' (first | exact Below.refl _ _ | refine Below.setCell ?_ (by simp) _ | refine Below.alloc ?_ (by simp [World.setCell] <;> omega) _)
    · have b42 : ((((s[0]).toNat : Nat) : Int) == 42) = false := by rw [hx]; exact byte_no h42
      by_cases h63 : x = 63
      · have b63 : ((((s[0]).toNat : Nat) : Int) == 63) = true := by rw [hx]; exact byte_yes h63
        have HF := Lib.hid (el_any (l := s.data.toList) (by rw [hhead, h63]))
        clear hl hx h42 h63 hhead
        go_enter Tryd.func96, Tryd.ntmps96
        go_wp2_with fail
        refine bodyPost_ret (v := .tuple #[.agg #[.bool false, .bool true, .slice none 0 0], .int .i64 1]) ?_ rfl (el_post (t := ⟨false, true, .slice none 0 0⟩) HF.out ?_ ⟨rfl, rfl, World.ownsRow_nil _ _ _ _⟩)
        · rw [results_cell_tmp rfl]
          go_simp
        · repeat' (first | exact Below.refl _ _ | refine Below.setCell ?_ (by simp) _ | refine Below.alloc ?_ (by simp [World.setCell] <;> omega) _)
      · have b63 : ((((s[0]).toNat : Nat) : Int) == 63) = false := by rw [hx]; exact byte_no h63
        by_cases h91 : x = 91
        · have b91 : ((((s[0]).toNat : Nat) : Int) == 91) = true := by rw [hx]; exact byte_yes h91
          have HF := Lib.hid (el_br (l := s.data.toList) (by rw [hhead, h91]))
          have cB := readBrackets_any s _ (He.out.below Hw1.out) hs h1
          rw [← HF.out] at cB
          clear hl hx h42 h63 h91 hhead
          go_enter Tryd.func96, Tryd.ntmps96
          go_wp2_with fail
          refine cB.mono ?_
          rintro e w2 ⟨t, k, rfl, hb2, ⟨a, n, c, hv⟩, hn, hy⟩
          obtain ⟨m, nn, v⟩ := t
          simp only at hv
          subst hv
          have ht2 := Ht1.out.below hb2 (by simp)
          obtain ⟨g0, g1, g2, k0, k1, k2⟩ := ht2.cells
          have hlt := ht2.lt
          have Ht2 := Lib.hid ht2
          have Hb2 := Lib.hid (Hw1.out.trans (hb2.mono (by simp)))
          have Hn := Lib.hid hn
          have Hy := Lib.hid hy
          unfold elV
          clear hb2 hn hy ht2 cB
          go_wp2_with fail
          refine bodyPost_ret (v := .tuple #[.agg #[.bool m, .bool nn, .slice a n c], .int .i64 k]) ?_ rfl ⟨⟨m, nn, .slice a n c⟩, k, rfl, below3 Hb2.out (Nat.le_refl _) _ _ _, ⟨_, _, _, rfl⟩, Hn.out, fun x hx => ⟨(Hy.out x hx).1, (Hy.out x hx).2.kept (T := 141) (by decide) (others_set3 Ht2.out _ _ _)⟩⟩
          rw [results_cell_tmp rfl]
          go_simp
        · have b91 : ((((s[0]).toNat : Nat) : Int) == 91) = false := by rw [hx]; exact byte_no h91
          have HF := Lib.hid (el_rune (l := s.data.toList) (by rw [hhead]; simp [h42]) (by rw [hhead]; simp [h63]) (by rw [hhead]; simp [h91]))
          have cR := readRune_any s _ (He.out.below Hw1.out) (by unfold maxLen; omega)
          clear hl hx h42 h63 h91 hhead
          generalize runeL s.data.toList = d at HF cR
          go_enter Tryd.func96, Tryd.ntmps96
          go_wp2_with fail
          refine cR.mono ?_
          rintro e w2 ⟨rfl, hb2⟩
          have ht2 := Ht1.out.below hb2 (by simp)
          obtain ⟨g0, g1, g2, k0, k1, k2⟩ := ht2.cells
          have hlt := ht2.lt
          have Ht2 := Lib.hid ht2
          have Hb2 := Lib.hid (Hw1.out.trans (hb2.mono (by simp)))
          clear hb2 ht2 cR
          go_wp2_with fail
          refine bodyPost_ret (v := .tuple #[.agg #[.bool false, .bool false, .slice (some ⟨w2.heap.size, 0, none⟩) 1 1], .int .i64 d.2]) ?_ rfl ⟨⟨false, false, .slice (some ⟨w2.heap.size, 0, none⟩) 1 1⟩, d.2, rfl, ?_, ⟨_, _, _, rfl⟩, fun h => ?_, fun x hx => ?_⟩
          · rw [results_cell_tmp rfl]
            go_simp
          · repeat' (first | exact Hb2.out | refine Below.setCell ?_ (by simp) _ | refine Below.alloc ?_ (by simp [World.setCell] <;> omega) _)
          · rw [HF.out] at h
            by_cases hd : d.2 = 0
            · exact hd
            · rw [if_neg hd] at h; cases h
          · rw [HF.out] at hx
            by_cases hd : d.2 = 0
            · rw [if_pos hd] at hx; cases hx
            · rw [if_neg hd] at hx
              cases hx
              exact ⟨rfl, rfl, rfl, lit_span (new_at (by simp [World.setCell]))⟩
end GR
end Go.Proofs.YtechekdiadpmoaaDoor
