/- The walk of Literal. -/
import Derived.Test.YtdnncacplnfllaaDoorGlobLitP
namespace Go.Proofs.YtdnncacplnfllaaDoor
open Go.RowKit Go.Lib
namespace LitN
open NF
def litA (l : List UInt8) : List UInt8 := if NP.pathL l = true then litL l else []
def LitPost (s : ByteArray) (w : World) (e : Ending) (w' : World) : Prop := ∃ t : ByteArray, e = .returned (.string t) ∧ t.data.toList = litA s.data.toList ∧ Below w.heap.size w w'
theorem cells_app (a b : List UInt8) : Lib.byteCells (a ++ b) = Lib.byteCells a ++ Lib.byteCells b := by simp [Lib.byteCells]
theorem cells_len (a : List UInt8) : (Lib.byteCells a).length = a.length := by simp [Lib.byteCells]
theorem cells_if (b : Bool) : Lib.byteCells (if b = true then [92] else []) = (if b = true then [Value.int .u8 92] else []) := by cases b <;> simp [Lib.byteCells]
theorem take_step (s : ByteArray) (pos : Nat) (h : pos < s.size) : s.data.toList.take (pos + (Utf8.decode s pos).2) = s.data.toList.take pos ++ (s.data.toList.drop pos).take (Utf8.decode s pos).2 := by
  rw [List.take_add]
set_option maxRecDepth 100000 in
set_option maxHeartbeats 3200000 in
theorem literal_any (s : ByteArray) (w : World) (he : Env w) (hs : s.size ≤ maxLen) :
    Calls Tryd.prog 13 #[.string s] w (LitPost s w) := by
  have cP := path_any s w he hs
  cases hp : NP.pathL s.data.toList
  · rw [hp] at cP
    have HA : Hid (litA s.data.toList = []) := Lib.hid (by unfold litA; rw [if_neg (by rw [hp]; simp)])
    clear hp
    go_enter Tryd.func13, Tryd.ntmps13
    go_wp2_with fail
    refine cP.mono ?_
    rintro e w1 ⟨rfl, hb⟩
    have Hb := Lib.hid hb
    clear hb cP
    go_wp2_with fail
    go_ret
    exact ⟨⟨#[]⟩, rfl, by rw [HA.out], Hb.out⟩
  · rw [hp] at cP
    have HA : Hid (litA s.data.toList = litL s.data.toList) := Lib.hid (by unfold litA; rw [if_pos hp])
    have HV := Lib.hid (path_valid hp)
    have h4 : s.size ≤ 400 := by
      have h := hp
      unfold NP.pathL at h
      simp only [Bool.and_eq_true, decide_eq_true_eq] at h
      rw [Lib.size_eq]
      exact h.1.1
    clear hp
    go_enter Tryd.func13, Tryd.ntmps13
    go_wp2_with fail
    refine cP.mono ?_
    rintro e w1 ⟨rfl, hb1⟩
    have Hb1 := Lib.hid hb1
    have hf := Lib.IsBuilderF.of (Lib.fresh_isBuilder 49 5 w1)
    have Hf := Lib.hid hf
    clear hb1 cP hf
    go_wp2_with fail
    go_loopw [] (fun wr => ∃ pos : Nat, pos ≤ s.size ∧ GB.Is w1.heap.size w1.heap.size (Lib.byteCells (litL (s.data.toList.take pos))) wr ∧ wr.heap[w1.heap.size + 1]? = some (.stringIter s pos) ∧ Below w1.heap.size w1 wr ∧ Lib.validD (s.data.toList.drop pos) = true) (fun wr => s.size - wr.iterPos (w1.heap.size + 1))
    case atStart =>
      refine ⟨0, by omega, Hf.out.alloc _, ?_, ((Below.refl _ _).alloc (Nat.le_refl _) _).alloc (by simp) _, HV.out⟩
      have h := World.iter_heap (w1.alloc (.cells #[.pointer none, .slice none 0 0] 49)) s 0
      simpa using h
    case round =>
      obtain ⟨pos, hpl, hB, hit, hb, hv⟩ := hrel
      have hsz : w1.heap.size + 1 < wr.heap.size := (Array.getElem?_eq_some_iff.1 hit).1
      have Hb := Lib.hid hb
      have HB := Lib.hid hB
      have Hit := Lib.hid hit
      have hlen : (litL (s.data.toList.take pos)).length ≤ 800 := by
        have h1 := litL_len (s.data.toList.take pos)
        rw [List.length_take, ← Lib.size_eq] at h1
        omega
      by_cases hps : pos < s.size
      · have hnx : ∀ ty, (Instr.next (.pointer (some ⟨w1.heap.size + 1, 0, none⟩)) true ty).run Tryd.prog wr = _ := fun ty => Lib.run_next_any_at wr (w1.heap.size + 1) s pos ty hit hps
        have hwd := Lib.width_pos s pos
        have hne : s.data.toList.drop pos ≠ [] := by
          intro e
          have := congrArg List.length e
          rw [List.length_drop, ← Lib.size_eq] at this
          simp at this
          omega
        obtain ⟨hv2, hed, hvr, hlit⟩ := lit_rune _ hne hv
        have hdl := Lib.decodeL_le _ hne
        rw [List.length_drop, ← Lib.size_eq] at hdl
        rw [Lib.decodeL_drop] at hv2 hed hvr hlit hdl
        rw [List.drop_drop] at hv2
        have hB2 := hB.iterAt hit (pos + (Utf8.decode s pos).2)
        have hit2 := Lib.iterAt_heap wr (w1.heap.size + 1) s pos (pos + (Utf8.decode s pos).2) hit
        have hbi := Lib.below_iterAt hb (by omega : w1.heap.size ≤ w1.heap.size + 1) s (pos + (Utf8.decode s pos).2)
        have hbytes : Lib.byteCells (litL (s.data.toList.take (pos + (Utf8.decode s pos).2))) = Lib.byteCells (litL (s.data.toList.take pos)) ++ ((if GS.special ((Utf8.decode s pos).1 : Int) = true then [.int .u8 92] else []) ++ Lib.runeCells ((Utf8.decode s pos).1 : Int)) := by
          rw [take_step s pos hps, litL_app, cells_app, hlit, cells_app, cells_if, ← hed, Lib.byteCells_encodeRune]
        have hrl : ((Utf8.decode s pos).1 : Int) ≤ 1114111 := by
          have h := Lib.rune_le s pos
          omega
        have Hv2 := Lib.hid hv2
        have Hbytes := Lib.hid hbytes
        have HB2 := Lib.hid hB2
        have Hbi := Lib.hid hbi
        generalize (Utf8.decode s pos).1 = r at *
        generalize (Utf8.decode s pos).2 = k at *
        generalize hwx : wr.iterAt (w1.heap.size + 1) s (pos + k) = wx at *
        have cS := GS.special_any (r : Int) wx (by omega) hvr
        have hxs := Hbi.out.size
        clear hv hv2 hed hlit hB hB2 hit hb hbi hbytes hne hvr hwx
        go_wp2_with fail
        refine cS.mono ?_
        rintro e w3 ⟨rfl, hb3⟩
        have HB3 := Lib.hid (builder_below HB2.out hb3)
        have hit3 : w3.heap[w1.heap.size + 1]? = some (.stringIter s (pos + k)) := by rw [hb3.block _ (Array.getElem?_eq_some_iff.1 hit2).1]; exact hit2
        have Hb3 := Lib.hid (Hbi.out.trans (hb3.mono Hbi.out.size))
        clear hb3 cS hit2 hnx
        have hs3 := Hb3.out.size
        cases hsp : GS.special (r : Int)
        · rw [hsp] at Hbytes
          clear hsp
          have cW := GB.rune_any w1.heap.size w1.heap.size _ (r : Int) (by omega) (by omega) w3 HB3.out (by rw [cells_len]; omega) hs3
          go_wp2_with fail
          refine cW.mono ?_
          rintro e w4 ⟨rfl, hB4, hb4, ho4⟩
          have hit4 := ho4.iter hit3 (by omega)
          have HB4 : Hid (GB.Is w1.heap.size w1.heap.size (Lib.byteCells (litL (s.data.toList.take (pos + k)))) w4) := Lib.hid (by rw [Hbytes.out]; exact hB4)
          have Hb4 := Lib.hid (Hb3.out.trans hb4)
          clear hB4 hb4 ho4 cW hit3
          go_wp2_with fail
          go_roundw
          case rel => exact ⟨pos + k, by omega, HB4.out, hit4, Hb4.out, Hv2.out⟩
          case measure => simp only [World.iterPos, Hit.out, hit4]; omega
        · rw [hsp] at Hbytes
          clear hsp
          have cY := GB.byte_any w1.heap.size w1.heap.size _ 92 w3 HB3.out (by rw [cells_len]; omega) hs3
          go_wp2_with fail
          refine cY.mono ?_
          rintro e w4 ⟨rfl, hB4, hb4, ho4⟩
          have hit4 := ho4.iter hit3 (by omega)
          have Hb4 := Lib.hid (Hb3.out.trans hb4)
          have HB4 := Lib.hid hB4
          clear hB4 hb4 ho4 cY hit3
          have hs4 := Hb4.out.size
          have cW := GB.rune_any w1.heap.size w1.heap.size _ (r : Int) (by omega) (by omega) w4 HB4.out (by rw [List.length_append, cells_len]; simp; omega) hs4
          go_wp2_with fail
          refine cW.mono ?_
          rintro e w5 ⟨rfl, hB5, hb5, ho5⟩
          have hit5 := ho5.iter hit4 (by omega)
          have HB5 : Hid (GB.Is w1.heap.size w1.heap.size (Lib.byteCells (litL (s.data.toList.take (pos + k)))) w5) := Lib.hid (by rw [Hbytes.out]; simpa using hB5)
          have Hb5 := Lib.hid (Hb4.out.trans hb5)
          clear hB5 hb5 ho5 cW hit4
          go_wp2_with fail
          go_roundw
          case rel => exact ⟨pos + k, by omega, HB5.out, hit5, Hb5.out, Hv2.out⟩
          case measure => simp only [World.iterPos, Hit.out, hit5]; omega
      · have hnx : ∀ ty, (Instr.next (.pointer (some ⟨w1.heap.size + 1, 0, none⟩)) true ty).run Tryd.prog wr = _ := fun ty => Lib.run_next_end_at wr (w1.heap.size + 1) s pos ty hit hps
        have ht : s.data.toList.take pos = s.data.toList := List.take_of_length_le (by rw [← Lib.size_eq]; omega)
        rw [ht] at HB
        have cT := Tryd.Builder_String_any_k w1.heap.size w1.heap.size (litL s.data.toList) wr HB.out (by omega)
        clear hB hb hit hv ht
        go_wp2_with fail
        refine cT.mono ?_
        rintro e w3 ⟨rfl, _, hb3, _⟩
        have Hb3 := Lib.hid (Hb1.out.trans ((Hb.out.trans hb3).mono Hb1.out.size))
        clear hb3 cT
        go_wp2_with fail
        go_ret
        exact ⟨⟨(litL s.data.toList).toArray⟩, rfl, by rw [HA.out], Hb3.out⟩
end LitN
end Go.Proofs.YtdnncacplnfllaaDoor
