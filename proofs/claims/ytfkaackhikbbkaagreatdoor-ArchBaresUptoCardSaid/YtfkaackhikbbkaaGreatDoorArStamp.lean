/- Layer 9: the contracts of the program's belowZero, and of ContainsFunc over it. -/
import Derived.Test.YtfkaackhikbbkaaGreatDoorMg1
import Derived.Test.YtfkaackhikbbkaaGreatDoorArRight
namespace Go.Proofs.YtfkaackhikbbkaaGreatDoor
open Go.RowKit Go.Lib Go.BigFrame
namespace AR
open OM TP TM TG TW AP

theorem run_min3 {P : Program} (w : World) (ts : Array TypeId) (t : TypeId) (x y z : Int) :
    (Builtin.min_ ts t #[.int .i64 x, .int .i64 y, .int .i64 z]).run P w = .ok (.int .i64 (min (min x y) z)) w := by
  have e : ∀ x y : Int, (if y < x then y else x) = min x y := fun x y => by
    rw [Int.min_def]
    split <;> split <;> omega
  simp [Builtin.min_, Builtin.min2, e]
/-- Whether one of them has a number below 0. -/
def anyZ (l : List Sm) : Bool := l.any fun s => !okS s
set_option maxRecDepth 100000 in
set_option maxHeartbeats 1600000 in
theorem zero_any (s : Sm) (w : World) :
    Calls Tryz.prog 66 #[smVal s] w fun r w' => r = .returned (.bool (!okS s)) ∧ Below w.heap.size w w' := by
  obtain ⟨a, b, c⟩ := s
  unfold smVal
  simp only
  have B0 : Hid (Below w.heap.size w (w.alloc (.cells #[.int .i64 a, .int .i64 b, .int .i64 c] 67))) := Lib.hid ((Below.refl _ _).alloc (Nat.le_refl _) _)
  have HV : Hid (∀ m : Int, m ≤ a → m ≤ b → m ≤ c → (m = a ∨ m = b ∨ m = c) → decide (m < 0) = !okS ⟨a, b, c⟩) := Lib.hid (fun m h1 h2 h3 h4 => by
    unfold okS
    rw [Bool.eq_iff_iff]
    simp
    omega)
  have q3 := fun W => run_min3 (P := Tryz.prog) W #[3, 3, 3] 3 a b c
  obtain ⟨m, hm⟩ : ∃ m, min (min a b) c = m := ⟨_, rfl⟩
  have HM : Hid (decide (m < 0) = !okS ⟨a, b, c⟩) := Lib.hid (HV.out m (by omega) (by omega) (by omega) (by omega))
  rw [hm] at q3
  clear hm
  go_enter Tryz.func66, Tryz.ntmps66
  repeat (first | go_skip | go_guarded | go_step | go_upon)
  go_ret
  exact ⟨by rw [← HM.out]; rfl, B0.out⟩
set_option maxRecDepth 100000 in
set_option maxHeartbeats 1600000 in
theorem sindex_any (bo : Option Addr) (cb : Nat) (v : List Sm) (w : World) (h : LayM w bo v) (hl : v.length ≤ 1000) :
    Calls Tryz.prog 96 #[.slice bo v.length cb, .func (.func 66) #[] #[]] w fun r w' => ∃ z : Int, r = .returned (.int .i64 z) ∧ decide (0 ≤ z) = anyZ v ∧ Below w.heap.size w w' := by
  have eg : ∀ args w, (callFunc 66 args).run Tryz.prog w = .ok (.enter 66 args) w := enters_of Tryz.func66 (by kernel_rfl) rfl
  obtain ⟨m, hm⟩ : ∃ m, v.length = m := ⟨_, rfl⟩
  have HM := Lib.hid hm
  have HL := Lib.hid h
  rw [hm] at hl ⊢
  have hmz : (m : Int) ≤ 1000 := by omega
  clear h hm
  go_enter Tryz.func96, Tryz.ntmps96
  repeat (first | go_skip | go_guarded | go_step | go_upon)
  go_loopw [8] (fun s8 wr => ∃ k : Nat, s8 = .int .i64 k ∧ k ≤ m ∧ anyZ (v.take k) = false ∧ Below w.heap.size w wr) (fun s8 _ => m - (Go.RowKit.intOf s8).toNat)
  case atStart => exact ⟨0, rfl, Nat.zero_le _, rfl, Below.refl _ _⟩
  case round =>
    obtain ⟨k, rfl, hk, hbad, hb⟩ := hrel
    have HB := Lib.hid hb
    have HBd := Lib.hid hbad
    have hbs := hb.size
    have hLr := HL.out.below hb
    clear hbad
    by_cases hlt : k < m
    · have hkz : (k : Int) < m := by omega
      obtain ⟨g, o, rfl, hg, hcell⟩ := hLr (by rw [HM.out]; omega)
      obtain ⟨x, hx⟩ : ∃ x, v[k]? = some x := ⟨v[k]'(by rw [HM.out]; exact hlt), List.getElem?_eq_getElem _⟩
      obtain ⟨c0, c1, c2⟩ := hcell k x hx
      have cx := zero_any x wr
      unfold smVal at cx
      obtain ⟨b, hbb⟩ : ∃ b, okS x = b := ⟨_, rfl⟩
      have HBb := Lib.hid hbb
      rw [hbb] at cx
      have HX := Lib.hid hx
      have CX := Lib.hid cx
      clear hb hcell hx cx hbb hLr hlt
      cases b with
      | true =>
        have HB2 : Hid (anyZ (v.take (k + 1)) = false) := Lib.hid (by
          unfold anyZ
          rw [List.take_add_one, HX.out, Option.toList_some, List.any_append]
          have := HBd.out
          unfold anyZ at this
          rw [this]
          simp [HBb.out])
        repeat (first | (go_at_fn 66; refine CX.out.mono ?_; rintro r w1 ⟨rfl, hb⟩; simp only []; have B1 := Lib.hid (Below.trans HB.out (hb.mono hbs)); clear hb) | go_skip | go_guarded | go_step | go_upon)
        exact ⟨⟨k + 1, by go_num, by omega, HB2.out, B1.out⟩, by simp [Go.RowKit.intOf]; omega⟩
      | false =>
        have HF : Hid (anyZ v = true) := Lib.hid (by
          unfold anyZ
          rw [List.any_eq_true]
          exact ⟨x, List.mem_of_getElem? HX.out, by rw [HBb.out]; rfl⟩)
        repeat (first | (go_at_fn 66; refine CX.out.mono ?_; rintro r w1 ⟨rfl, hb⟩; simp only []; have B1 := Lib.hid (Below.trans HB.out (hb.mono hbs)); clear hb) | go_skip | go_guarded | go_step | go_upon)
        go_ret
        exact ⟨_, rfl, by rw [HF.out]; simp, B1.out⟩
    · have hkz : ¬ (k : Int) < m := by omega
      have HF : Hid (anyZ v = false) := Lib.hid (by
        have := HBd.out
        rw [List.take_of_length_le (by rw [HM.out]; omega)] at this
        exact this)
      clear hlt hb hLr
      repeat (first | go_skip | go_guarded | go_step | go_upon)
      go_ret
      exact ⟨_, rfl, by rw [HF.out]; simp, HB.out⟩
set_option maxRecDepth 100000 in
theorem scontains_any (bo : Option Addr) (cb : Nat) (v : List Sm) (w : World) (h : LayM w bo v) (hl : v.length ≤ 1000) :
    Calls Tryz.prog 65 #[.slice bo v.length cb, .func (.func 66) #[] #[]] w fun r w' => r = .returned (.bool (anyZ v)) ∧ Below w.heap.size w w' := by
  have CI := Lib.hid (sindex_any bo cb v w h hl)
  obtain ⟨m, hm⟩ : ∃ m, v.length = m := ⟨_, rfl⟩
  rw [hm] at CI ⊢
  clear h hl hm
  go_enter Tryz.func65, Tryz.ntmps65
  repeat (first | (go_at_call 96; refine CI.out.mono ?_; rintro r w1 ⟨z, rfl, hz, hb⟩; simp only []; have HZ := Lib.hid hz; have B1 := Lib.hid hb; clear hb hz) | go_skip | go_guarded | go_step | go_upon)
  go_ret
  exact ⟨by rw [← HZ.out]; rfl, B1.out⟩
end AR
end Go.Proofs.YtfkaackhikbbkaaGreatDoor
