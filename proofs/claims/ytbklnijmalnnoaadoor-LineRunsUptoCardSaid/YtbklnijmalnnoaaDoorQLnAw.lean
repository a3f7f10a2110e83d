/- Layer 15: the statements' own guard 'awake', and the walk of LineMore. -/
import Derived.Test.YtbklnijmalnnoaaDoorQLnPk
import Derived.Test.YtbklnijmalnnoaaDoorQLnRe
import Derived.Test.YtbklnijmalnnoaaDoorQLnCar
set_option linter.all false
set_option maxRecDepth 100000
set_option maxHeartbeats 25600000
namespace Go.Proofs.YtbklnijmalnnoaaDoor
open Go.RowKit Go.Lib Go.BigFrame
namespace LN
open HP HS RP LP OM RQ HR RF
open HQ (Env crc_any)

theorem RdPost.out {s : List UInt8} {w w' : World} {r : Ending} (h : RdPost s w r w') {m : List (List UInt8)} {g : Bool} (hr : readL s = (m, g)) : ∃ ao c, r = .returned (.tuple #[.slice ao m.length c, .int .i64 (if g then 0 else 150 : Nat)]) ∧ Lay w' ao m ∧ m.length ≤ c ∧ Below w.heap.size w w' := by
  obtain ⟨ao, c, h1, h2, h4, h3⟩ := h
  unfold readE at h1
  rw [hr] at h1 h2 h4
  exact ⟨ao, c, h1, h2, h4, h3⟩
theorem lay_one (w : World) (x : List UInt8) : Lay (w.alloc (.cells #[txt x] 9)) (some ⟨w.heap.size, 0, none⟩) [x] := fun _ => by
  refine ⟨w.heap.size, 0, rfl, by simp, fun k t hk => ?_⟩
  have hrow := heap_alloc_new w (.cells #[txt x] 9)
  have h0 : k = 0 := by have := (List.getElem?_eq_some_iff.1 hk).1; simp at this; exact this
  subst h0
  simp at hk
  subst hk
  rw [cell_of_row _ _ (0 + 0) _ _ _ hrow]
  rfl
theorem packV_ok {ls : List (List UInt8)} (h : badT ls = false) : packV ls = .returned (.tuple #[txt (framesL 0 ls), .int .i64 0]) := by
  unfold packV packT packE
  rw [h]
  rfl
theorem packV_bad {ls : List (List UInt8)} (h : badT ls = true) : packV ls = .returned (.tuple #[.string ⟨#[]⟩, .int .i64 32]) := by
  unfold packV packT packE
  rw [h]
  rfl
set_option maxRecDepth 100000 in
set_option maxHeartbeats 1600000 in
theorem awake_any (w : World) (he : Env w) : Calls Tryd.prog 6 #[] w fun r w' => r = .returned (.bool true) ∧ Below w.heap.size w w' := by
  obtain ⟨w1, hw1⟩ : ∃ w1, w.alloc (.cells #[txt [97]] 9) = w1 := ⟨_, rfl⟩
  have hb1 : Below w.heap.size w w1 := hw1 ▸ (Below.refl _ _).alloc (Nat.le_refl _) _
  have hl1 : Lay w1 (some ⟨w.heap.size, 0, none⟩) [[97]] := hw1 ▸ lay_one w [97]
  have hbad : badT [[97]] = false := rfl
  have hlen : (framesL 0 [[97]]).length = 13 := by rw [framesL, framesL, List.append_nil, frame_len]; rfl
  have cP := pack_any (some ⟨w.heap.size, 0, none⟩) 1 [[97]] w1 (he.below hb1) hl1 (by rw [hlen]; decide)
  rw [packV_ok hbad] at cP
  have hwh := read_whole [[97]] (-1) 0 0 (badT_no hbad) (.inl (by decide)) (.inl rfl)
  have cC := fun W => carry_any (framesL 0 [[97]]) (-1) 0 0 W (by rw [hlen]; decide) (by decide) (by decide) (by decide) (by decide)
  have hcl := carry_len (framesL 0 [[97]]) (-1) 0 0
  rw [hlen] at hcl
  obtain ⟨C, hC⟩ : ∃ C, carryL (framesL 0 [[97]]) (-1) 0 0 = C := ⟨_, rfl⟩
  rw [hC] at cC hcl hwh
  have cR := fun W (hW : Below w.heap.size w W) => read_call C W (he.below hW) (by omega)
  unfold txt at cP cC cR hw1
  obtain ⟨TF, hTF⟩ : ∃ T : ByteArray, ⟨(framesL 0 [[97]]).toArray⟩ = T := ⟨_, rfl⟩
  obtain ⟨TC, hTC⟩ : ∃ T : ByteArray, ⟨C.toArray⟩ = T := ⟨_, rfl⟩
  have hTFz : TF.size = 13 := by rw [← hTF, Lib.size_eq]; exact hlen
  rw [hTF] at cP cC
  rw [hTC] at cC cR
  unfold faultV at cC
  have CP := Lib.hid cP
  have CC := Lib.hid cC
  have CR := Lib.hid cR
  have HW := Lib.hid hwh
  have B1 := Lib.hid hb1
  clear cP cC cR hwh hcl hTF hTC hC hlen hbad hl1 hb1 he
  go_enter Tryd.func6, Tryd.ntmps6
  repeat (first | (go_at_call 7; fail) | go_skip | go_guarded | go_step | go_upon)
  refine CP.out.mono ?_
  rintro r w2 ⟨rfl, hb⟩
  simp only []
  have B2 := Lib.hid (Below.trans B1.out (hb.mono B1.out.size))
  clear hb
  repeat (first | (go_at_call 9; fail) | go_skip | go_guarded | go_step | go_upon)
  refine (CC.out _).mono ?_
  rintro r w3 ⟨rfl, hb⟩
  simp only []
  have B3 := Lib.hid (Below.trans B2.out (hb.mono B2.out.size))
  clear hb
  repeat (first | (go_at_call 11; fail) | go_skip | go_guarded | go_step | go_upon)
  refine (CR.out _ B3.out).mono ?_
  rintro r w4 hp
  obtain ⟨ao, c, rfl, hl, _, hb⟩ := RdPost.out hp HW.out
  have B4 := Lib.hid (Below.trans B3.out (hb.mono B3.out.size))
  obtain ⟨g, o, rfl, _, hc⟩ := hl (by simp)
  have c0 := hc 0 [97] rfl
  unfold txt at c0
  rw [Nat.add_zero] at c0
  clear hp hl hb hc
  simp only [List.length_cons, List.length_nil, Nat.zero_add]
  repeat (first | go_skip | go_guarded | go_step | go_upon)
  go_ret
  exact ⟨rfl, B4.out⟩
end LN
end Go.Proofs.YtbklnijmalnnoaaDoor
