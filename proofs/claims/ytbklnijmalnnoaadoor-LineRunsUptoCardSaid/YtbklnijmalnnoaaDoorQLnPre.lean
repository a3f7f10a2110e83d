/- Layer 15: the walk of LinePrefix. -/
import Derived.Test.YtbklnijmalnnoaaDoorQLnAw
set_option linter.all false
set_option maxRecDepth 100000
set_option maxHeartbeats 25600000
namespace Go.Proofs.YtbklnijmalnnoaaDoor
open Go.RowKit Go.Lib Go.BigFrame
namespace LN
open HP HS RP LP OM RQ HR RF
open HQ (Env crc_any)

/-- Three cells in a block. -/
structure Box3 (W : World) (b : Nat) (x y z : Value) : Prop where
  c0 : W.cell? ⟨b, 0, none⟩ = some x
  c1 : W.cell? ⟨b, 1, none⟩ = some y
  c2 : W.cell? ⟨b, 2, none⟩ = some z
  lt : b < W.heap.size
theorem Box3.new (w : World) (x y z : Value) (T : TypeId) : Box3 (w.alloc (.cells #[x, y, z] T)) w.heap.size x y z := by
  have hrow := heap_alloc_new w (.cells #[x, y, z] T)
  exact ⟨by rw [cell_of_row _ _ 0 _ _ _ hrow]; rfl, by rw [cell_of_row _ _ 1 _ _ _ hrow]; rfl, by rw [cell_of_row _ _ 2 _ _ _ hrow]; rfl, by simp⟩
theorem Box3.below {W W' : World} {b : Nat} {x y z : Value} (h : Box3 W b x y z) (hb : Below W.heap.size W W') : Box3 W' b x y z :=
  ⟨(hb.cell (p := ⟨b, 0, none⟩) h.lt).trans h.c0, (hb.cell (p := ⟨b, 1, none⟩) h.lt).trans h.c1, (hb.cell (p := ⟨b, 2, none⟩) h.lt).trans h.c2, Nat.lt_of_lt_of_le h.lt hb.size⟩
set_option maxRecDepth 100000 in
set_option maxHeartbeats 6400000 in
theorem lprefix_any (ao : Option Addr) (cap : Nat) (ls : List (List UInt8)) (cut flip : Int) (x : UInt8) (w : World) (he : Env w) (h : Lay w ao ls) (hm : (framesL 0 ls).length ≤ 1073741824) (hcap : ls.length ≤ cap)
    (hc0 : -9223372036854775808 ≤ cut) (hc1 : cut ≤ 9223372036854775807) (hf0 : -9223372036854775808 ≤ flip) (hf1 : flip ≤ 9223372036854775807) :
    Calls Tryd.prog 4 #[.slice ao ls.length cap, faultV cut flip x] w fun r w' => r = .returned (.bool true) ∧ Below w.heap.size w w' := by
  obtain ⟨y, hy⟩ : ∃ y, x.toNat = y := ⟨_, rfl⟩
  obtain ⟨w0, hw0⟩ : ∃ w0, w.alloc (.cells #[.int .i64 cut, .int .i64 flip, .int .u8 (y : Nat)] 24) = w0 := ⟨_, rfl⟩
  have hb0 : Below w.heap.size w w0 := hw0 ▸ (Below.refl _ _).alloc (Nat.le_refl _) _
  have hx0 : Box3 w0 w.heap.size (.int .i64 cut) (.int .i64 flip) (.int .u8 (y : Nat)) := hw0 ▸ Box3.new w _ _ _ _
  have CA := Lib.hid (awake_any w0 (he.below hb0))
  obtain ⟨L, hL⟩ : ∃ L, ls.length = L := ⟨_, rfl⟩
  have hLm : L ≤ 1073741824 := by have := frames_count ls 0; omega
  have cP := fun W (hW : Below w.heap.size w W) => pack_any ao cap ls W (he.below hW) (h.below hW) hm
  rw [hL] at cP ⊢
  have B0 := Lib.hid hb0
  have X0 := Lib.hid hx0
  have hsz0 := hb0.size
  cases hbad : badT ls with
  | true =>
    rw [packV_bad hbad] at cP
    have CP := Lib.hid cP
    unfold faultV
    rw [hy]
    clear cP h hm hbad he hL hy hb0 hx0
    go_enter Tryd.func4, Tryd.ntmps4
    repeat (first
      | (go_at_call 6; refine CA.out.mono ?_; rintro r w1 ⟨rfl, hb⟩; simp only []; have B1 := Lib.hid (Below.trans B0.out (hb.mono B0.out.size)); clear hb)
      | (go_at_call 7; refine (CP.out _ B1.out).mono ?_; rintro r w2 ⟨rfl, hb⟩; simp only []; have B2 := Lib.hid (Below.trans B1.out (hb.mono B1.out.size)); clear hb)
      | go_skip | go_guarded | go_step | go_upon)
    go_ret
    exact ⟨rfl, B2.out⟩
  | false =>
    have hok := badT_no hbad
    rw [packV_ok hbad] at cP
    obtain ⟨S, hS⟩ : ∃ S, framesL 0 ls = S := ⟨_, rfl⟩
    obtain ⟨C, hC⟩ : ∃ C, carryL S cut flip x = C := ⟨_, rfl⟩
    obtain ⟨z, hz⟩ : ∃ z, S.length = z := ⟨_, rfl⟩
    obtain ⟨m, hmm⟩ : ∃ m, (readL C).1 = m := ⟨_, rfl⟩
    obtain ⟨g, hg⟩ : ∃ g, (readL C).2 = g := ⟨_, rfl⟩
    have hr : readL C = (m, g) := by rw [← hmm, ← hg]
    have hpre : m <+: ls := by
      have := read_prefix ls cut flip x hok
      rw [hS, hC, hmm] at this
      exact this
    have hwh := read_whole ls cut flip x hok
    rw [hS, hC, hr, hz] at hwh
    have hto := read_told ls cut flip x hok
    rw [hS, hC, hr, hz] at hto
    simp only at hto
    have hCl : C.length ≤ z := by rw [← hC, ← hz]; exact carry_len S cut flip x
    rw [hS, hz] at hm
    have cC := fun W => carry_any S cut flip x W (by rw [hz]; unfold maxLen; omega) hc0 hc1 hf0 hf1
    have cR := fun W (hW : Below w.heap.size w W) => read_call C W (he.below hW) (by omega)
    obtain ⟨k, hk⟩ : ∃ k, m.length = k := ⟨_, rfl⟩
    have hkL : k ≤ L := by rw [← hk, ← hL]; exact hpre.length_le
    have hmt : ls.take k = m := by rw [← hk]; exact (List.prefix_iff_eq_take.1 hpre).symm
    have cX := fun W a1 a2 d1 d2 (h1 : Lay W a1 m) (h2 : Lay W a2 m) => texts_same a1 a2 d1 d2 m W h1 h2 (by unfold maxLen; omega)
    rw [hk] at cX
    have hokm : ∀ p ∈ m, p.length ≤ MaxP := fun p hp => hok p (hpre.subset hp)
    have hbm : badT m = false := by
      cases hb : badT m with
      | false => rfl
      | true => exact absurd hokm (badT_yes hb)
    have hfm : (framesL 0 m).length ≤ z := by rw [← hz, ← hS, ← hmt]; exact frames_take ls k
    have cQ := fun W a1 d1 (hW : Below w.heap.size w W) (h1 : Lay W a1 m) => pack_any a1 d1 m W (he.below hW) h1 (by omega)
    rw [packV_ok hbm] at cQ
    rw [hk] at cQ
    obtain ⟨at_, hat⟩ : ∃ a, framesL 0 m = a := ⟨_, rfl⟩
    obtain ⟨q, hq⟩ : ∃ q, at_.length = q := ⟨_, rfl⟩
    rw [hat] at cQ hto
    rw [hq] at hto
    rw [hS] at cP
    rw [hC] at cC
    unfold txt at cP cC cR cQ
    unfold faultV at cC ⊢
    rw [hy] at cC ⊢
    obtain ⟨TS, hTS⟩ : ∃ T : ByteArray, ⟨S.toArray⟩ = T := ⟨_, rfl⟩
    obtain ⟨TC, hTC⟩ : ∃ T : ByteArray, ⟨C.toArray⟩ = T := ⟨_, rfl⟩
    obtain ⟨TQ, hTQ⟩ : ∃ T : ByteArray, ⟨at_.toArray⟩ = T := ⟨_, rfl⟩
    have z1 : TS.size = z := by rw [← hTS, Lib.size_eq]; exact hz
    have z2 : TQ.size = q := by rw [← hTQ, Lib.size_eq]; exact hq
    rw [hTS] at cP cC
    rw [hTC] at cC cR
    rw [hTQ] at cQ
    have hy0 : x = 0 ↔ y = 0 := by
      rw [← hy]
      constructor
      · intro e; rw [e]; rfl
      · intro e; exact UInt8.toNat_inj.1 e
    have CP := Lib.hid cP
    have CC := Lib.hid cC
    have CR := Lib.hid cR
    have CX := Lib.hid cX
    have CQ := Lib.hid cQ
    have HR := Lib.hid hr
    have HL := Lib.hid h
    have HMt := Lib.hid hmt
    have HK := Lib.hid hk
    have hcz : (k : Int) ≤ cap := by omega
    have hkz : ¬ ((L : Int) < k) := by omega
    have hzz : (z : Int) ≤ 1073741824 := by omega
    have HWh : Hid ((cut < 0 ∨ (z : Int) ≤ cut) → (y = 0 ∨ flip < 0 ∨ (z : Int) ≤ flip) → g = true ∧ k = L) := Lib.hid (fun h1 h2 => by
      have := hwh h1 (h2.imp hy0.2 id)
      simp only [Prod.mk.injEq] at this
      exact ⟨this.2, by rw [← hk, this.1, hL]⟩)
    have HTo : Hid (¬ ((cut < 0 ∨ (z : Int) ≤ cut) ∧ (y = 0 ∨ flip < 0 ∨ (z : Int) ≤ flip)) → g = true → cut = (q : Int) ∧ (y = 0 ∨ flip < 0 ∨ cut ≤ flip)) := Lib.hid (fun h1 h2 => by
      have := hto (fun h => h1 ⟨h.1, h.2.imp hy0.1 id⟩) h2
      exact ⟨this.1, this.2.imp hy0.1 id⟩)
    clear cP cC cR cX cQ hr h hm hbad he hL hok hS hC hz hmm hg hpre hwh hto hCl hk hmt hokm hbm hfm hat hq hTS hTC hTQ hy0 hcap hy hb0 hx0
    go_enter Tryd.func4, Tryd.ntmps4
    repeat (first
      | (go_at_call 6; refine CA.out.mono ?_; rintro r w1 ⟨rfl, hb⟩; simp only []; have B1 := Lib.hid (Below.trans B0.out (hb.mono B0.out.size)); have X1 := Lib.hid (X0.out.below hb); clear hb)
      | (go_at_call 7; refine (CP.out _ B1.out).mono ?_; rintro r w2 ⟨rfl, hb⟩; simp only []; have B2 := Lib.hid (Below.trans B1.out (hb.mono B1.out.size)); have X2 := Lib.hid (X1.out.below hb); obtain ⟨x0, x1, x2, _⟩ := X2.out; clear hb)
      | (go_at_call 9; refine (CC.out _).mono ?_; rintro r w3 ⟨rfl, hb⟩; simp only []; have B3 := Lib.hid (Below.trans B2.out (hb.mono B2.out.size)); have X3 := Lib.hid (X2.out.below hb); clear hb x0 x1 x2)
      | (go_at_call 11; fail)
      | go_skip | go_guarded | go_step | go_upon)
    refine (CR.out _ B3.out).mono ?_
    rintro r w4 hp
    obtain ⟨a4, c4, hr4, hl4, hk4, hb4⟩ := RdPost.out hp HR.out
    rw [HK.out] at hr4 hk4
    subst hr4
    simp only []
    have B4 := Lib.hid (Below.trans B3.out (hb4.mono B3.out.size))
    have X4 := Lib.hid (X3.out.below hb4)
    have HL4 := Lib.hid hl4
    have HL0 : Hid (Lay w4 ao m) := Lib.hid (by
      have h := Lay.take (HL.out.below B4.out) k
      rw [HMt.out] at h
      exact h)
    clear hp hl4 hb4
    obtain ⟨e, he⟩ : ∃ e : Nat, (if g then 0 else 150 : Nat) = e := ⟨_, rfl⟩
    rw [he]
    repeat (first
      | (go_at_call 13; fail)
      | go_skip | go_guarded | go_step | go_upon)
    refine (CX.out _ _ _ _ _ HL4.out HL0.out).mono ?_
    rintro r w5 ⟨rfl, hb⟩
    simp only []
    have B5 := Lib.hid (Below.trans B4.out (hb.mono B4.out.size))
    have X5 := Lib.hid (X4.out.below hb)
    have HL5 := Lib.hid (HL4.out.below hb)
    obtain ⟨x0, x1, x2, _⟩ := X5.out
    clear hb
    cases g with
    | false =>
      simp only [Bool.false_eq_true, if_false] at he
      subst he
      by_cases a1 : cut < 0
      · have hn : y ≠ 0 ∧ 0 ≤ flip ∧ flip < (z : Int) := by
          have h := HWh.out (.inl a1)
          refine ⟨fun e => ?_, Int.not_lt.1 fun e => ?_, Int.not_le.1 fun e => ?_⟩
          · exact absurd (h (.inl e)).1 (by simp)
          · exact absurd (h (.inr (.inl e))).1 (by simp)
          · exact absurd (h (.inr (.inr e))).1 (by simp)
        obtain ⟨n1, n2, n3⟩ := hn
        have q1 : ((y : Int) == 0) = false := by simp; omega
        have q2 : ¬ flip < 0 := by omega
        have q3 : ¬ (z : Int) ≤ flip := by omega
        repeat (first | go_skip | go_guarded | go_step | go_upon)
        go_ret
        exact ⟨rfl, B5.out⟩
      · by_cases a2 : (z : Int) ≤ cut
        · have hn : y ≠ 0 ∧ 0 ≤ flip ∧ flip < (z : Int) := by
            have h := HWh.out (.inr a2)
            refine ⟨fun e => ?_, Int.not_lt.1 fun e => ?_, Int.not_le.1 fun e => ?_⟩
            · exact absurd (h (.inl e)).1 (by simp)
            · exact absurd (h (.inr (.inl e))).1 (by simp)
            · exact absurd (h (.inr (.inr e))).1 (by simp)
          obtain ⟨n1, n2, n3⟩ := hn
          have q1 : ((y : Int) == 0) = false := by simp; omega
          have q2 : ¬ flip < 0 := by omega
          have q3 : ¬ (z : Int) ≤ flip := by omega
          repeat (first | go_skip | go_guarded | go_step | go_upon)
          go_ret
          exact ⟨rfl, B5.out⟩
        · repeat (first | go_skip | go_guarded | go_step | go_upon)
          go_ret
          exact ⟨rfl, B5.out⟩
    | true =>
      simp only [if_true] at he
      subst he
      by_cases hw : (cut < 0 ∨ (z : Int) ≤ cut) ∧ (y = 0 ∨ flip < 0 ∨ (z : Int) ≤ flip)
      · obtain ⟨-, rfl⟩ := HWh.out hw.1 hw.2
        have qk : ((k : Int) == (k : Int)) = true := by simp
        by_cases a1 : cut < 0
        · by_cases a3 : y = 0
          · subst a3
            repeat (first | go_skip | go_guarded | go_step | go_upon)
            go_ret
            exact ⟨rfl, B5.out⟩
          · have q1 : ((y : Int) == 0) = false := by simp; omega
            by_cases a4 : flip < 0
            · repeat (first | go_skip | go_guarded | go_step | go_upon)
              go_ret
              exact ⟨rfl, B5.out⟩
            · have a5 : (z : Int) ≤ flip := by rcases hw.2 with h | h | h <;> first | exact absurd h a3 | exact absurd h a4 | exact h
              repeat (first | go_skip | go_guarded | go_step | go_upon)
              go_ret
              exact ⟨rfl, B5.out⟩
        · have a2 : (z : Int) ≤ cut := by rcases hw.1 with h | h <;> first | exact absurd h a1 | exact h
          by_cases a3 : y = 0
          · subst a3
            repeat (first | go_skip | go_guarded | go_step | go_upon)
            go_ret
            exact ⟨rfl, B5.out⟩
          · have q1 : ((y : Int) == 0) = false := by simp; omega
            by_cases a4 : flip < 0
            · repeat (first | go_skip | go_guarded | go_step | go_upon)
              go_ret
              exact ⟨rfl, B5.out⟩
            · have a5 : (z : Int) ≤ flip := by rcases hw.2 with h | h | h <;> first | exact absurd h a3 | exact absurd h a4 | exact h
              repeat (first | go_skip | go_guarded | go_step | go_upon)
              go_ret
              exact ⟨rfl, B5.out⟩
      · obtain ⟨rfl, ht⟩ := HTo.out hw rfl
        have a1 : ¬ (q : Int) < 0 := by omega
        have a2 : ¬ (z : Int) ≤ q := fun h => hw ⟨.inr h, ht.imp id (fun h2 => h2.imp id fun h3 => by omega)⟩
        have qq : ((q : Int) == (q : Int)) = true := by simp
        repeat (first
          | (go_at_call 7; fail)
          | go_skip | go_guarded | go_step | go_upon)
        refine (CQ.out _ _ _ B5.out HL5.out).mono ?_
        rintro r w6 ⟨rfl, hb⟩
        simp only []
        have B6 := Lib.hid (Below.trans B5.out (hb.mono B5.out.size))
        clear x0 x1 x2
        obtain ⟨x0, x1, x2, _⟩ := X5.out.below hb
        clear hb
        by_cases a3 : y = 0
        · subst a3
          repeat (first | go_skip | go_guarded | go_step | go_upon)
          go_ret
          exact ⟨rfl, B6.out⟩
        · have q1 : ((y : Int) == 0) = false := by simp; omega
          by_cases a4 : flip < 0
          · repeat (first | go_skip | go_guarded | go_step | go_upon)
            go_ret
            exact ⟨rfl, B6.out⟩
          · have a5 : (q : Int) ≤ flip := by rcases ht with h | h | h <;> first | exact absurd h a3 | exact absurd h a4 | exact h
            repeat (first | go_skip | go_guarded | go_step | go_upon)
            go_ret
            exact ⟨rfl, B6.out⟩
end LN
end Go.Proofs.YtbklnijmalnnoaaDoor
