/- Layer 6: the contracts of the program's done, Put. -/
import Derived.Test.YtfbhbadcgecgmaaGreatDoorTreeGoB
namespace Go.Proofs.YtfbhbadcgecgmaaGreatDoor
open Go.RowKit Go.Lib Go.BigFrame
namespace TG
open OM TP TM TR

theorem map_place_under {p : List UInt8} {v : List Nd} (h : rightV v = true) : v.map (underN p) = v.map (placeN p) := under_all h
set_option maxRecDepth 100000 in
set_option maxHeartbeats 6400000 in
theorem done_any (ao : Option Addr) (ca : Nat) (ts : List Nd) (p : List UInt8) (bo : Option Addr) (cb : Nat) (cs : List Nd) (w : World) (h : ChIn w ao ca ts p bo cb cs) (S : ByteArray) (hS : txt p = .string S) :
    Calls Tryz.prog 147 #[.agg #[.slice ao ts.length ca, .string S, .slice bo cs.length cb]] w fun r w' => ∃ i j, Cut ts p i j ∧ AtPost (ts.take i ++ (cs ++ ts.drop j)) w r w' := by
  have ht := (tree_iff ts).1 h.tree
  have CW : Hid (∀ W, Below w.heap.size w W → Calls Tryz.prog 163 #[.slice ao ts.length ca, .string S] W (CutPost ts p W)) := Lib.hid (by rw [← hS]; exact within_calls h.env h.layT h.smallT h.lenP h.tree)
  have HIn := Lib.hid h
  have hn := ht.len
  have hm := h.lenC
  have hcap := h.capT
  obtain ⟨n, hnn⟩ : ∃ n, ts.length = n := ⟨_, rfl⟩
  obtain ⟨m, hmm⟩ : ∃ m, cs.length = m := ⟨_, rfl⟩
  have HNn := Lib.hid hnn
  have HMm := Lib.hid hmm
  rw [hnn] at CW hn hcap ⊢
  rw [hmm] at hm ⊢
  have hmz : (m : Int) ≤ 1000 := by omega
  have hnz : (n : Int) ≤ 1000 := by omega
  obtain ⟨w0, hw0⟩ : ∃ w0, w.alloc (.cells #[.slice ao n ca, .string S, .slice bo m cb] 179) = w0 := ⟨_, rfl⟩
  have hb0 : Below w.heap.size w w0 := by rw [← hw0]; exact (Below.refl _ _).alloc (Nat.le_refl _) _
  obtain ⟨t0, t1, t2⟩ := box3 w (.slice ao n ca) (.string S) (.slice bo m cb) 179
  rw [hw0] at t0 t1 t2
  have hz0 : w.heap.size < w0.heap.size := by rw [← hw0]; simp
  have HB0 := Lib.hid hb0
  have HBx : Hid (∀ W, Below w0.heap.size w0 W → W.cell? ⟨w.heap.size, 0, none⟩ = some (.slice ao n ca) ∧ W.cell? ⟨w.heap.size, 1, none⟩ = some (.string S) ∧ W.cell? ⟨w.heap.size, 2, none⟩ = some (.slice bo m cb)) := Lib.hid (fun W hW =>
    ⟨(hW.cell (p := ⟨w.heap.size, 0, none⟩) hz0).trans t0, (hW.cell (p := ⟨w.heap.size, 1, none⟩) hz0).trans t1, (hW.cell (p := ⟨w.heap.size, 2, none⟩) hz0).trans t2⟩)
  clear h ht hS hnn hmm hb0
  go_enter Tryz.func147, Tryz.ntmps147
  repeat (first | (go_at_call 163; fail) | go_skip | go_guarded | go_step | go_upon)
  refine (CW.out _ HB0.out).mono ?_
  rintro r w1 ⟨i, j, rfl, hcut, hb⟩
  simp only []
  have hij := hcut.ij
  have hjn : j ≤ n := by have := hcut.le; have := HNn.out; omega
  have HCut := Lib.hid hcut
  have HB1 := Lib.hid (Below.trans HB0.out (hb.mono HB0.out.size))
  obtain ⟨s0, s1, s2⟩ := HBx.out w1 hb
  have hz1 : w.heap.size < w1.heap.size := Nat.lt_of_lt_of_le hz0 hb.size
  have hsl1 := sl_to ndsl_list ao n i ca i rfl (by omega)
  obtain ⟨ao', c', hsl2, hlay2, _, hno2⟩ := sl_from ndsl_list ao ts j ca (by rw [HNn.out]; exact hjn) (by rw [HNn.out]; exact hcap)
  obtain ⟨q, hq⟩ : ∃ q, n - j = q := ⟨_, rfl⟩
  rw [HNn.out, hq] at hsl2
  have CC : Hid (∀ W h, Below w1.heap.size w1 W → h < W.heap.size → W.cell? ⟨h, 0, none⟩ = some (.slice ao i ca) → W.cell? ⟨h, 1, none⟩ = some (.slice bo m cb) → W.cell? ⟨h, 2, none⟩ = some (.slice ao' q c') →
      Calls Tryz.prog 166 #[.slice (some ⟨h, 0, none⟩) 3 3] W (AtPost (ts.take i ++ (cs ++ ts.drop j)) W)) := Lib.hid (fun W h hW hh k0 k1 k2 => by
    have hW2 := Below.trans HB1.out (hW.mono HB1.out.size)
    have hI := HIn.out.below hW2
    have l0 : (ts.take i).length = i := by rw [List.length_take, HNn.out]; omega
    have l2 : (ts.drop j).length = q := by rw [List.length_drop, HNn.out]; omega
    have := catL_any h 3 [⟨ao, ca, ts.take i⟩, ⟨bo, cb, cs⟩, ⟨ao', c', ts.drop j⟩] W hh (fun y e he => ?_) (fun e he => ?_) ?_ (by simp)
    · simpa using this
    · match y with
      | 0 => simp at he; subst he; simp only; rw [l0]; exact k0
      | 1 => simp at he; subst he; simp only; rw [HMm.out]; exact k1
      | 2 => simp at he; subst he; simp only; rw [l2]; exact k2
      | y + 3 => simp at he
    · simp only [List.mem_cons, List.not_mem_nil, or_false] at he
      rcases he with rfl | rfl | rfl
      · exact ⟨hI.layT.take i, hI.noT⟩
      · exact ⟨hI.layC, hI.noC⟩
      · exact ⟨hlay2 W hI.layT, hno2 hI.noT⟩
    · simp [tot, HNn.out, HMm.out]
      omega)
  have CX : Hid (Calls Tryz.prog 166 #[.slice (some ⟨w1.heap.size, 0, none⟩) 3 3] ((w1.alloc (.cells #[.slice ao i ca, .slice bo m cb, .slice ao' q c'] 130)).drew) (AtPost (ts.take i ++ (cs ++ ts.drop j)) ((w1.alloc (.cells #[.slice ao i ca, .slice bo m cb, .slice ao' q c'] 130)).drew))) := Lib.hid (by
    obtain ⟨k0, k1, k2⟩ := box3 w1 (.slice ao i ca) (.slice bo m cb) (.slice ao' q c') 130
    exact CC.out _ _ (Below.drew ((Below.refl _ _).alloc (Nat.le_refl _) _)) (by show w1.heap.size < (w1.alloc _).heap.size; simp) k0 k1 k2)
  have BX : Hid (Below w.heap.size w ((w1.alloc (.cells #[.slice ao i ca, .slice bo m cb, .slice ao' q c'] 130)).drew)) := Lib.hid (Below.drew (HB1.out.alloc HB1.out.size _))
  clear hb hcut hlay2 hno2 t0 t1 t2 hw0 CW
  repeat (first | go_skip | go_guarded | go_step | go_upon)
  go_region_with (first | (go_at_call 166; refine CX.out.mono ?_; rintro r w3 ⟨u, rfl, hown, hb⟩; simp only []; have HO3 := Lib.hid (owns_base hown w.heap.size BX.out.size); have HB3 := Lib.hid (Below.trans BX.out (hb.mono BX.out.size)); clear hb hown))
  all_goals (repeat (first | go_skip | go_guarded | go_step | go_upon))
  all_goals go_ret
  all_goals exact ⟨i, j, HCut.out, _, rfl, HO3.out, HB3.out⟩
end TG
end Go.Proofs.YtfbhbadcgecgmaaGreatDoor
