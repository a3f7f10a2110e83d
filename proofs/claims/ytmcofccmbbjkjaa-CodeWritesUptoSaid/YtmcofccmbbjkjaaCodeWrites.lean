/- Layer 3: the walk of the statement CodeWrites: it answers true, for every number, every text of up to 1048576 bytes, and every flag. -/
import Derived.Test.YtmcofccmbbjkjaaCodeRef
import Derived.Test.YtmcofccmbbjkjaaCodeLists
import Derived.Test.YtmcofccmbbjkjaaShelf
import Derived.Lib.Join
namespace Go.Proofs.Ytmcofccmbbjkjaa
open Go.RowKit Go.Lib
namespace CX
open CP CR CQ

theorem rnum_any (n : Int) (w : World) (h : n < 2 ^ 63) : Calls Try.prog 11 #[.int .i64 n] w (NumPost (numS n) w) := by
  unfold numS
  by_cases h0 : n < 0
  · rw [if_pos h0]
    exact rnum_neg n w h0
  · rw [if_neg h0]
    obtain ⟨m, rfl⟩ := nat_i64 (n := n) (by omega)
    exact rnum_nat m w (by omega)
theorem rtext_any (s : ByteArray) (w : World) (h : (nm s.size).length + s.size ≤ maxLen) : Calls Try.prog 12 #[.string s] w (NumPost (textS s.data.toList) w) := by
  have hs : s.size < 2 ^ 63 := by unfold maxLen at h; omega
  have cN := rnum_nat s.size w hs
  unfold maxLen at h
  go_enter Try.func12, Try.ntmps12
  go_wp2_with fail
  refine cN.mono ?_
  rintro e w1 ⟨t, rfl, ht, hb⟩
  have Ht := Lib.hid ht
  have hts : t.size + s.size ≤ 9223372036854775807 := by rw [Lib.size_eq t, ht]; omega
  clear ht h
  go_wp2
  go_ret
  exact ⟨_, rfl, by unfold textS; rw [← Lib.size_eq, ← Ht.out]; simp [ByteArray.data_append], hb⟩
theorem rflag_any (b : Bool) (w : World) : Calls Try.prog 13 #[.bool b] w (NumPost (flagS b) w) := by
  cases b
  all_goals
    go_enter Try.func13, Try.ntmps13
    go_wp2
    go_ret
    exact ⟨_, rfl, rfl, Below.refl _ _⟩
theorem all_none (w : World) : Calls Try.prog 14 #[.slice none 0 0] w (NumPost [] w) := by
  have cJ := Try.strings_Join_none none 0 ByteArray.empty w
  go_enter Try.func14, Try.ntmps14
  go_wp2_with fail
  refine cJ.mono ?_
  rintro e w1 ⟨rfl, rfl⟩
  go_wp2
  go_ret
  exact ⟨_, rfl, rfl, Below.refl _ _⟩
theorem all_three (x y z : ByteArray) (bk : Nat) (w : World) (h0 : w.cell? ⟨bk, 0, none⟩ = some (.string x)) (h1 : w.cell? ⟨bk, 1, none⟩ = some (.string y)) (h2 : w.cell? ⟨bk, 2, none⟩ = some (.string z))
    (hs : x.size + y.size + z.size ≤ 140737488355328) : Calls Try.prog 14 #[.slice (some ⟨bk, 0, none⟩) 3 3] w (NumPost (x.data.toList ++ y.data.toList ++ z.data.toList) w) := by
  have ej : Lib.join ([x, y, z].map (·.data.toList)) ByteArray.empty.data.toList = x.data.toList ++ y.data.toList ++ z.data.toList := by
    have e0 : ByteArray.empty.data.toList = [] := rfl
    rw [e0]
    simp [Lib.join]
  have cJ := Try.strings_Join bk 0 3 [x, y, z] ByteArray.empty w (fun j u hj => by
    match j, hj with
    | 0, hj => simp at hj; subst hj; exact h0
    | 1, hj => simp at hj; subst hj; exact h1
    | 2, hj => simp at hj; subst hj; exact h2
    | j + 3, hj => simp at hj) (World.block_lt_of_cell? _ _ h0 :) (by simp) (by simp) (by
      rw [ej]
      simp only [List.length_append, ← Lib.size_eq]
      exact hs)
  rw [ej] at cJ
  clear ej h0 h1 h2
  go_enter Try.func14, Try.ntmps14
  go_wp2_with fail
  refine cJ.mono ?_
  rintro e w1 ⟨rfl, hb⟩
  go_wp2
  go_ret
  exact ⟨_, rfl, by simp, hb⟩
theorem nm_nine {n : Nat} (h : n < 2 ^ 63) : (nm n).length ≤ 9 := by
  have e9 : (128 : Nat) ^ (9 - 0) = 2 ^ 63 := by decide
  have := nm_length (n := n) (k := 0) (by decide) (by omega)
  omega
theorem numS_nine {n : Int} (h : n < 2 ^ 63) : (numS n).length ≤ 9 := by
  unfold numS
  by_cases h0 : n < 0
  · rw [if_pos h0]; simp
  · rw [if_neg h0]
    exact nm_nine (by omega)
theorem same_text {a b : ByteArray} {l : List UInt8} (h : a.data.toList = l) (h2 : b.data.toList = l) : (a.toList == b.toList) = true := by rw [Lib.toList_data, Lib.toList_data, h, h2]; simp
set_option maxRecDepth 100000 in
set_option maxHeartbeats 6400000 in
theorem writes_law (n : Int) (s : ByteArray) (b : Bool) (w : World) (hn : n < 2 ^ 63) (hs : s.size ≤ 1048576) :
    Calls Try.prog 3 #[.int .i64 n, .string s, .bool b] w (Yes w) := by
  have cAw := awake_any w
  have h9 := nm_nine (n := s.size) (by omega)
  have hroom : (nm s.size).length + s.size ≤ maxLen := by unfold maxLen; omega
  have c1 := fun W => num_any n W hn
  have c2 := fun W => text_wr s W hroom
  have c3 := fun W => wflag_post b W
  have r1 := fun W => rnum_any n W hn
  have r2 := fun W => rtext_any s W hroom
  have r3 := fun W => rflag_any b W
  have L1 := Lib.hid (numS_nine hn)
  have L2 : Hid ((textS s.data.toList).length ≤ 1048585) := Lib.hid (by unfold textS; rw [List.length_append, ← Lib.size_eq]; omega)
  have L3 : Hid ((flagS b).length = 1) := Lib.hid (by cases b <;> rfl)
  clear hroom h9 hs hn
  go_enter Try.func3, Try.ntmps3
  go_wp2_with fail
  refine cAw.mono ?_
  rintro e w1 ⟨rfl, hb1⟩
  have B1 := Lib.hid hb1
  clear hb1 cAw
  go_wp2_with fail
  refine (c1 w1).mono ?_
  rintro e w2 ⟨x, rfl, hx, hb2⟩
  have B2 := Lib.hid (B1.out.trans (hb2.mono B1.out.size))
  have Hx := Lib.hid hx
  clear hb2 hx
  go_wp2_with fail
  refine (c2 w2).mono ?_
  rintro e w3 ⟨y, rfl, hy, hb3⟩
  have B3 := Lib.hid (B2.out.trans (hb3.mono B2.out.size))
  have Hy := Lib.hid hy
  clear hb3 hy
  go_wp2_with fail
  refine (c3 w3).mono ?_
  rintro e w4 ⟨z, rfl, hz, hb4⟩
  have B4 := Lib.hid (B3.out.trans (hb4.mono B3.out.size))
  have Hz := Lib.hid hz
  clear hb4 hz
  go_wp2_with fail
  refine (r1 w4).mono ?_
  rintro e w5 ⟨x', rfl, hx', hb5⟩
  have B5 := Lib.hid (B4.out.trans (hb5.mono B4.out.size))
  have ex := same_text Hx.out hx'
  clear hb5 hx'
  go_wp2_with fail
  refine (r2 w5).mono ?_
  rintro e w6 ⟨y', rfl, hy', hb6⟩
  have B6 := Lib.hid (B5.out.trans (hb6.mono B5.out.size))
  have ey := same_text Hy.out hy'
  clear hb6 hy'
  go_wp2_with fail
  refine (r3 w6).mono ?_
  rintro e w7 ⟨z', rfl, hz', hb7⟩
  have B7 := Lib.hid (B6.out.trans (hb7.mono B6.out.size))
  have ez := same_text Hz.out hz'
  clear hb7 hz'
  have hx9 : x.size ≤ 9 := by rw [Lib.size_eq, Hx.out]; exact L1.out
  have hy9 : y.size ≤ 1048585 := by rw [Lib.size_eq, Hy.out]; exact L2.out
  have hz9 : z.size = 1 := by rw [Lib.size_eq, Hz.out]; exact L3.out
  have c5 := all_three x y z w7.heap.size (w7.alloc (.cells #[.string x, .string y, .string z] 9)) (World.cell?_alloc_at _ _ _ _ rfl) (World.cell?_alloc_at _ _ _ _ rfl) (World.cell?_alloc_at _ _ _ _ rfl) (by omega)
  have hal : Below w7.heap.size w7 (w7.alloc (.cells #[.string x, .string y, .string z] 9)) := (Below.refl _ _).alloc (Nat.le_refl _) _
  have B8 := Lib.hid (B7.out.trans (hal.mono B7.out.size))
  clear hal
  go_wp2_with fail
  refine c5.mono ?_
  rintro e w9 ⟨u, rfl, hu, hb9⟩
  have B9 := Lib.hid (B8.out.trans (hb9.mono B8.out.size))
  have eu : (u.toList == (x ++ y ++ z).toList) = true := same_text hu (by simp [ByteArray.data_append])
  clear hb9 hu c5
  have c6 := all_none w9
  go_wp2_with fail
  refine c6.mono ?_
  rintro e w10 ⟨v, rfl, hv, hb10⟩
  have B10 := Lib.hid (B9.out.trans (hb10.mono B9.out.size))
  have ev : v.toList.isEmpty = true := by rw [Lib.toList_data, hv]; rfl
  clear hb10 hv c6
  go_wp2
  go_ret
  exact ⟨rfl, B10.out⟩
end CX
end Go.Proofs.Ytmcofccmbbjkjaa
