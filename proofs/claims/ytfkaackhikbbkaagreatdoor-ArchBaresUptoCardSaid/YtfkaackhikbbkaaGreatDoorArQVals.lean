/- Layer 9: the contract of the document's Values and Bare. -/
import Derived.Test.YtfkaackhikbbkaaGreatDoorMg3
import Derived.Test.YtfkaackhikbbkaaGreatDoorArQSums
import Derived.Test.YtfkaackhikbbkaaGreatDoorArBare
namespace Go.Proofs.YtfkaackhikbbkaaGreatDoor
open Go.RowKit Go.Lib Go.BigFrame
namespace HV
open OM TP TM TG TW TR HX AB

def DT (ts : List Nd) : List ByteArray := (ts.filter fun n => decide (n.kind ≠ 2)).map fun n => ⟨n.data.toArray⟩
theorem dt_snoc_dir {ts : List Nd} {k : Nat} {x : Nd} (hx : ts[k]? = some x) (h : x.kind = 2) : DT (ts.take (k + 1)) = DT (ts.take k) := by
  unfold DT
  rw [List.take_add_one, hx, Option.toList_some, List.filter_append]
  simp [h]
theorem dt_snoc {ts : List Nd} {k : Nat} {x : Nd} (hx : ts[k]? = some x) (h : x.kind ≠ 2) : DT (ts.take (k + 1)) = DT (ts.take k) ++ [⟨x.data.toArray⟩] := by
  unfold DT
  rw [List.take_add_one, hx, Option.toList_some, List.filter_append, List.map_append]
  simp [h]
theorem dt_len (ts : List Nd) (k : Nat) : (DT (ts.take k)).length ≤ k := by
  unfold DT
  rw [List.length_map]
  have := List.length_filter_le (fun n : Nd => decide (n.kind ≠ 2)) (ts.take k)
  rw [List.length_take] at this
  omega
def SH (ts : List Nd) : List ByteArray := (DT ts).map fun s => ⟨(HS.shaL s.data.toList).toArray⟩
theorem sh_map (ts : List Nd) : (DT ts).map shaS = (SH ts).map Value.string := by
  unfold SH
  rw [List.map_map]
  rfl
theorem lay_text {w : World} {B : Nat} {v : Value} {ls : List ByteArray} (h : w.ownsRow B 9 1 v ls.length (ls.map Value.string)) : ∃ ao c, v = .slice ao ls.length c ∧ LayT w ao ls := by
  obtain ⟨ao, c, rfl, hx⟩ := owns_view h
  refine ⟨ao, c, rfl, fun h0 => ?_⟩
  obtain ⟨g, rfl, hg, _, hc⟩ := hx h0
  refine ⟨g, 0, rfl, hg, fun k x hk => ?_⟩
  have hkl := (List.getElem?_eq_some_iff.1 hk).1
  rw [Nat.zero_add]
  refine (hc k (by omega)).trans ?_
  rw [List.getElem?_map, hk]
  rfl
theorem sha_len (l : List UInt8) : (HS.shaL l).length ≤ 1000 := by
  rw [HQ.sha_cut]
  have : ∀ l : List Nat, (l.flatMap HS.be4).length = 4 * l.length := by
    intro l
    induction l with
    | nil => rfl
    | cons a l ih => rw [List.flatMap_cons, List.length_append, AB.be4_len, ih, List.length_cons]; omega
  rw [this]
  simp [HQ.stL]
theorem dt_at {ts : List Nd} {k : Nat} {x : Nd} (hx : ts[k]? = some x) (h : x.kind ≠ 2) : (DT ts)[(DT (ts.take k)).length]? = some ⟨x.data.toArray⟩ := by
  obtain ⟨hk, e⟩ := List.getElem?_eq_some_iff.1 hx
  have e1 : DT ts = DT (ts.take k) ++ (⟨x.data.toArray⟩ :: DT (ts.drop (k + 1))) := by
    have e2 : ts = ts.take k ++ x :: ts.drop (k + 1) := by rw [← e, ← List.drop_eq_getElem_cons hk, List.take_append_drop]
    conv => lhs; rw [e2]
    unfold DT
    rw [List.filter_append, List.map_append, List.filter_cons]
    simp [h]
  rw [e1, List.getElem?_append_right (Nat.le_refl _), Nat.sub_self]
  rfl
theorem sh_at {ts : List Nd} {k : Nat} {x : Nd} (hx : ts[k]? = some x) (h : x.kind ≠ 2) : (SH ts)[(DT (ts.take k)).length]? = some ⟨(HS.shaL x.data).toArray⟩ := by
  unfold SH
  rw [List.getElem?_map, dt_at hx h]
  rfl
def WInv (w2 : World) (ts : List Nd) (s5 s6 s7 : Value) (wr : World) : Prop :=
  ∃ (i k : Nat) (a1 : Option Addr) (c1 : Nat), s7 = .int .i64 i ∧ s6 = .int .i64 k ∧ s5 = .slice a1 i c1 ∧ i ≤ ts.length ∧ k = (DT (ts.take i)).length ∧ wr.ownsRow w2.heap.size 25 4 (.slice a1 i c1) i (nodesC ((ts.take i).map bareF)) ∧ Below w2.heap.size w2 wr
def VInv (w : World) (ts : List Nd) (s3 s4 : Value) (wr : World) : Prop :=
  ∃ (k : Nat) (a1 : Option Addr) (c1 : Nat) (m : Nat), s4 = .int .i64 k ∧ s3 = .slice a1 m c1 ∧ k ≤ ts.length ∧ m = (DT (ts.take k)).length ∧ wr.ownsRow w.heap.size 9 1 (.slice a1 m c1) m ((DT (ts.take k)).map Value.string) ∧ Below w.heap.size w wr
set_option maxRecDepth 100000 in
set_option maxHeartbeats 6400000 in
theorem rvalues_any (ao : Option Addr) (ca : Nat) (ts : List Nd) (w : World) (h : LayN w ao ts) (hn : ts.length ≤ 1000) (hd : ∀ n ∈ ts, n.kind ≠ 2 → n.data.length ≤ 100000) :
    Calls Tryz.prog 30 #[.slice ao ts.length ca] w fun r w' => ∃ v, r = .returned v ∧ w'.ownsRow w.heap.size 25 4 v ts.length (nodesC (ts.map bareF)) ∧ Below w.heap.size w w' := by
  obtain ⟨n, hnn⟩ : ∃ n, ts.length = n := ⟨_, rfl⟩
  have HN := Lib.hid hnn
  have HL := Lib.hid h
  have HD := Lib.hid hd
  rw [hnn] at hn ⊢
  have hnz : (n : Int) ≤ 1000 := by omega
  clear h hd hnn
  go_enter Tryz.func30, Tryz.ntmps30
  repeat (first | go_skip | go_guarded | go_step | go_upon)
  go_loopw [3, 4] (fun s3 s4 wr => VInv w ts s3 s4 wr) (fun _ s4 _ => n - (Go.RowKit.intOf s4).toNat)
  case atStart => exact ⟨0, none, 0, 0, rfl, rfl, Nat.zero_le _, rfl, World.ownsRow_nil _ _ _ _, Below.refl _ _⟩
  case round =>
    obtain ⟨k, a1, c1, m, rfl, rfl, hk, hm, hown, hb⟩ := hrel
    have HO := Lib.hid hown
    have HB := Lib.hid hb
    have HM := Lib.hid hm
    have hml := dt_len ts k
    rw [← hm] at hml
    rw [HN.out] at hk
    clear hown hb hm
    by_cases hlt : k < n
    · have hkz : (k : Int) < n := by omega
      obtain ⟨g, o, rfl, hg, hcell⟩ := (HL.out.below HB.out) (by rw [HN.out]; omega)
      obtain ⟨x, hx⟩ : ∃ x, ts[k]? = some x := ⟨ts[k]'(by rw [HN.out]; exact hlt), List.getElem?_eq_getElem _⟩
      obtain ⟨d0, d1, d2, d3⟩ := hcell k x hx
      have HX := Lib.hid hx
      obtain ⟨kx, hkx⟩ : ∃ kx, x.kind = kx := ⟨_, rfl⟩
      obtain ⟨D, hDt⟩ : ∃ D : ByteArray, ⟨x.data.toArray⟩ = D := ⟨_, rfl⟩
      unfold txt at d2
      rw [hDt] at d2
      rw [hkx] at d1
      have HKx := Lib.hid hkx
      have HDt := Lib.hid hDt
      clear hcell hx hkx hDt d0 d3 hlt
      by_cases hk2 : kx = 2
      · have kb : (kx != 2) = false := by simp [hk2]
        have HS := Lib.hid (dt_snoc_dir HX.out (by rw [HKx.out]; exact hk2))
        clear hk2
        repeat (first | go_skip | go_guarded | go_step | go_upon)
        exact ⟨⟨k + 1, a1, c1, m, by go_num, rfl, by rw [HN.out]; omega, by rw [HS.out]; exact HM.out, by rw [HS.out]; exact HO.out, HB.out⟩, by simp [Go.RowKit.intOf]; omega⟩
      · have kb : (kx != 2) = true := by simp [hk2]
        have HS := Lib.hid (dt_snoc HX.out (by rw [HKx.out]; exact hk2))
        rw [HDt.out] at HS
        clear hk2
        obtain ⟨ap, cp, W4, hrun, hown, hout⟩ := text_step (s := D) HO.out (by omega) HB.out.size
        have HOwn := Lib.hid hown
        have HOut := Lib.hid hout
        clear hown hout
        repeat (first | (at_builtin; refine wpList_append_run _ rfl _ _ _ _ rfl _ _ rfl rfl _ _ hrun ?_) | go_skip | go_guarded | go_step | go_upon)
        exact ⟨⟨k + 1, ap, cp, m + 1, by go_num, rfl, by rw [HN.out]; omega, by rw [HS.out, List.length_append, ← HM.out]; rfl, by rw [HS.out, List.map_append]; exact HOwn.out, ((FP.Out.of_below HB.out).then HOut.out (fun j hj e => (HO.out.lt j e).1)).below (fun j hj _ hn => by omega) (Nat.le_refl _)⟩, by simp [Go.RowKit.intOf]; omega⟩
    · have hkz : ¬ (k : Int) < n := by omega
      have hkn : n = k := by omega
      subst hkn
      clear hlt
      have hall : ts.take n = ts := List.take_of_length_le (by rw [HN.out]; exact Nat.le_refl _)
      rw [hall] at HO HM
      have HAll := Lib.hid hall
      clear hall
      by_cases hm0 : m = 0
      · have hmz : ¬ (0 : Int) < m := by omega
        have hmn : ¬ 0 < m := by omega
        have LL : Hid (LayT wr a1 (SH ts)) := Lib.hid (fun h0 => by
          unfold SH at h0
          rw [List.length_map, ← HM.out, hm0] at h0
          omega)
        have HLn : Hid ((SH ts).length = m) := Lib.hid (by unfold SH; rw [List.length_map, ← HM.out])
        have HB2 := HB
        obtain ⟨w2, hw2⟩ : ∃ W, W = wr := ⟨_, rfl⟩
        subst hw2
        clear hm0
        repeat (first | go_skip | go_guarded | go_step | go_upon)
        go_loopw [5, 6, 7] (fun s5 s6 s7 wr => WInv w2 ts s5 s6 s7 wr) (fun _ _ s7 _ => n - (Go.RowKit.intOf s7).toNat)
        case atStart => exact ⟨0, 0, none, 0, rfl, rfl, rfl, Nat.zero_le _, rfl, World.ownsRow_nil _ _ _ _, Below.refl _ _⟩
        case round =>
          obtain ⟨i, c, a2, c2, rfl, rfl, rfl, hi, hc, hown, hb⟩ := hrel
          have HO2 := Lib.hid hown
          have HC := Lib.hid hc
          have HB3 := Lib.hid hb
          have HBr := Lib.hid (HB2.out.trans (hb.mono HB2.out.size))
          rw [HN.out] at hi
          have hcl := dt_len ts i
          rw [← hc] at hcl
          clear hown hc hb
          by_cases hlt : i < n
          · have hiz : (i : Int) < n := by omega
            obtain ⟨g, o, rfl, hg, hcell⟩ := (HL.out.below HBr.out) (by rw [HN.out]; omega)
            obtain ⟨x, hx⟩ : ∃ x, ts[i]? = some x := ⟨ts[i]'(by rw [HN.out]; exact hlt), List.getElem?_eq_getElem _⟩
            obtain ⟨d0, d1, d2, d3⟩ := hcell i x hx
            obtain ⟨xp, kx, xd, mx⟩ := x
            simp only [] at d0 d1 d2 d3
            obtain ⟨X, hXt⟩ : ∃ D : ByteArray, ⟨xp.toArray⟩ = D := ⟨_, rfl⟩
            obtain ⟨D, hDt⟩ : ∃ D : ByteArray, ⟨xd.toArray⟩ = D := ⟨_, rfl⟩
            unfold txt at d0 d2
            rw [hXt] at d0
            rw [hDt] at d2
            have HX := Lib.hid hx
            have HXt : Hid (txt xp = .string X) := Lib.hid (by unfold txt; rw [hXt])
            have HDt : Hid (txt xd = .string D) := Lib.hid (by unfold txt; rw [hDt])
            obtain ⟨V0, hV0⟩ : ∃ W, wr.alloc (.cells #[.string X, .int .i64 kx, .string D, .int .i64 mx] 25) = W := ⟨_, rfl⟩
            have b0 : Below wr.heap.size wr V0 := by rw [← hV0]; exact (Below.refl _ _).alloc (Nat.le_refl _) _
            have r0 : V0.heap[wr.heap.size]? = some (.cells #[.string X, .int .i64 kx, .string D, .int .i64 mx] 25 (0, 0)) := by rw [← hV0]; exact heap_alloc_new wr _
            have HO3 := Lib.hid (owns_below HO2.out b0)
            have HBl : Hid (∀ q, (Value.slice a2 i c2).ownBlock = some q → q < wr.heap.size) := Lib.hid (fun q hq => (HO2.out.lt q hq).2)
            have HB4 := Lib.hid (HB3.out.trans (b0.mono HB3.out.size))
            have HBx : Hid (w2.heap.size ≤ wr.heap.size) := Lib.hid (HB3.out.size)
            have R0 := Lib.hid r0
            obtain ⟨n0, n1, n2, n3, nf⟩ := cell4 r0
            clear hcell hXt hDt b0 r0 hlt hx n0 n1 n2 n3 nf
            subst hV0
            by_cases hk2 : kx = 2
            · have kb : (kx != 2) = false := by simp [hk2]
              have HBf : Hid ((ts.take (i + 1)).map bareF = (ts.take i).map bareF ++ [⟨xp, kx, xd, mx⟩]) := Lib.hid (by
                rw [List.take_add_one, HX.out, Option.toList_some, List.map_append]
                have : bareF ⟨xp, kx, xd, mx⟩ = ⟨xp, kx, xd, mx⟩ := by unfold bareF; rw [if_pos hk2]
                rw [List.map_singleton, this])
              have HS := Lib.hid (dt_snoc_dir HX.out hk2)
              clear hk2
              obtain ⟨ap, cp, W4, hrun, hown, hout⟩ := AD.node_step (n := ⟨xp, kx, xd, mx⟩) HO3.out HXt.out HDt.out (by omega) HB4.out.size
              have HOwn := Lib.hid hown
              have HOut := Lib.hid hout
              clear hown hout
              try simp only [World.size_alloc] at hrun
              go_wp2_with (first | (at_builtin; refine wpList_append_run _ rfl _ _ _ _ rfl _ _ rfl rfl _ _ hrun ?_))
              go_round
              case rel => exact ⟨i + 1, c, ap, cp, by go_num, rfl, rfl, by rw [HN.out]; omega, by rw [HS.out]; exact HC.out, by rw [HBf.out]; exact HOwn.out, ((FP.Out.of_below HB4.out).then HOut.out (fun j hj e => (HO3.out.lt j e).1)).below (fun j hj _ hn => by omega) (Nat.le_refl _)⟩
              case measure => simp [Go.RowKit.intOf]; omega
            · have kb : (kx != 2) = true := by simp [hk2]
              have hsh := sh_at HX.out hk2
              rw [← HC.out] at hsh
              simp only [] at hsh
              have hcm : (c : Int) < m := by
                have := (List.getElem?_eq_some_iff.1 hsh).1
                rw [HLn.out] at this
                omega
              exfalso
              omega
          · have hiz : ¬ (i : Int) < n := by omega
            have hin : n = i := by omega
            subst hin
            clear hlt
            repeat (first | go_skip | go_guarded | go_step | go_upon)
            go_ret
            refine ⟨_, rfl, ?_, HBr.out⟩
            have := owns_base HO2.out w.heap.size HB2.out.size
            rw [HAll.out] at this
            exact this
      · have hmz : (0 : Int) < m := by omega
        have hmn : 0 < m := by omega
        have hl := lay_text (by rw [← HM.out]; exact HO.out)
        obtain ⟨a1', c1', e1, hlt'⟩ := hl
        injection e1 with e1 e8 e2
        clear e8
        subst e1 e2
        have hdl : (DT ts).length ≤ 100000 := by rw [← HM.out]; omega
        have hds : ∀ s ∈ DT ts, s.size ≤ 100000 := fun s hs => by
          unfold DT at hs
          obtain ⟨x, hx, rfl⟩ := List.mem_map.1 hs
          obtain ⟨hx1, hx2⟩ := List.mem_filter.1 hx
          rw [Lib.size_eq]
          exact HD.out x hx1 (by simpa using hx2)
        have cs := rsums_any (DT ts) a1 c1 wr hlt' hdl hds
        rw [← HM.out] at cs
        have CSm := Lib.hid cs
        clear hlt' hdl hds cs hm0
        repeat (first | (go_at_call 61; fail) | go_skip | go_guarded | go_step | go_upon)
        refine CSm.out.mono ?_
        rintro r w2 ⟨vl, rfl, hown, hb⟩
        simp only []
        have HLn : Hid ((SH ts).length = m) := Lib.hid (by unfold SH; rw [List.length_map, ← HM.out])
        rw [sh_map] at hown
        obtain ⟨la, lc, e1, hlay⟩ := lay_text (by rw [HLn.out]; exact hown)
        rw [HLn.out] at e1
        subst e1
        have LL := Lib.hid hlay
        have HB2 := Lib.hid (HB.out.trans (hb.mono HB.out.size))
        clear hown hb hlay
        repeat (first | go_skip | go_guarded | go_step | go_upon)
        go_loopw [5, 6, 7] (fun s5 s6 s7 wr => WInv w2 ts s5 s6 s7 wr) (fun _ _ s7 _ => n - (Go.RowKit.intOf s7).toNat)
        case atStart => exact ⟨0, 0, none, 0, rfl, rfl, rfl, Nat.zero_le _, rfl, World.ownsRow_nil _ _ _ _, Below.refl _ _⟩
        case round =>
          obtain ⟨i, c, a2, c2, rfl, rfl, rfl, hi, hc, hown, hb⟩ := hrel
          have HO2 := Lib.hid hown
          have HC := Lib.hid hc
          have HB3 := Lib.hid hb
          have HBr := Lib.hid (HB2.out.trans (hb.mono HB2.out.size))
          rw [HN.out] at hi
          have hcl := dt_len ts i
          rw [← hc] at hcl
          clear hown hc hb
          by_cases hlt : i < n
          · have hiz : (i : Int) < n := by omega
            obtain ⟨g, o, rfl, hg, hcell⟩ := (HL.out.below HBr.out) (by rw [HN.out]; omega)
            obtain ⟨x, hx⟩ : ∃ x, ts[i]? = some x := ⟨ts[i]'(by rw [HN.out]; exact hlt), List.getElem?_eq_getElem _⟩
            obtain ⟨d0, d1, d2, d3⟩ := hcell i x hx
            obtain ⟨xp, kx, xd, mx⟩ := x
            simp only [] at d0 d1 d2 d3
            obtain ⟨X, hXt⟩ : ∃ D : ByteArray, ⟨xp.toArray⟩ = D := ⟨_, rfl⟩
            obtain ⟨D, hDt⟩ : ∃ D : ByteArray, ⟨xd.toArray⟩ = D := ⟨_, rfl⟩
            unfold txt at d0 d2
            rw [hXt] at d0
            rw [hDt] at d2
            have HX := Lib.hid hx
            have HXt : Hid (txt xp = .string X) := Lib.hid (by unfold txt; rw [hXt])
            have HDt : Hid (txt xd = .string D) := Lib.hid (by unfold txt; rw [hDt])
            obtain ⟨V0, hV0⟩ : ∃ W, wr.alloc (.cells #[.string X, .int .i64 kx, .string D, .int .i64 mx] 25) = W := ⟨_, rfl⟩
            have b0 : Below wr.heap.size wr V0 := by rw [← hV0]; exact (Below.refl _ _).alloc (Nat.le_refl _) _
            have r0 : V0.heap[wr.heap.size]? = some (.cells #[.string X, .int .i64 kx, .string D, .int .i64 mx] 25 (0, 0)) := by rw [← hV0]; exact heap_alloc_new wr _
            have HO3 := Lib.hid (owns_below HO2.out b0)
            have HBl : Hid (∀ q, (Value.slice a2 i c2).ownBlock = some q → q < wr.heap.size) := Lib.hid (fun q hq => (HO2.out.lt q hq).2)
            have HB4 := Lib.hid (HB3.out.trans (b0.mono HB3.out.size))
            have HBx : Hid (w2.heap.size ≤ wr.heap.size) := Lib.hid (HB3.out.size)
            have R0 := Lib.hid r0
            obtain ⟨n0, n1, n2, n3, nf⟩ := cell4 r0
            clear hcell hXt hDt b0 r0 hlt hx n0 n1 n2 n3 nf
            subst hV0
            by_cases hk2 : kx = 2
            · have kb : (kx != 2) = false := by simp [hk2]
              have HBf : Hid ((ts.take (i + 1)).map bareF = (ts.take i).map bareF ++ [⟨xp, kx, xd, mx⟩]) := Lib.hid (by
                rw [List.take_add_one, HX.out, Option.toList_some, List.map_append]
                have : bareF ⟨xp, kx, xd, mx⟩ = ⟨xp, kx, xd, mx⟩ := by unfold bareF; rw [if_pos hk2]
                rw [List.map_singleton, this])
              have HS := Lib.hid (dt_snoc_dir HX.out hk2)
              clear hk2
              obtain ⟨ap, cp, W4, hrun, hown, hout⟩ := AD.node_step (n := ⟨xp, kx, xd, mx⟩) HO3.out HXt.out HDt.out (by omega) HB4.out.size
              have HOwn := Lib.hid hown
              have HOut := Lib.hid hout
              clear hown hout
              try simp only [World.size_alloc] at hrun
              go_wp2_with (first | (at_builtin; refine wpList_append_run _ rfl _ _ _ _ rfl _ _ rfl rfl _ _ hrun ?_))
              go_round
              case rel => exact ⟨i + 1, c, ap, cp, by go_num, rfl, rfl, by rw [HN.out]; omega, by rw [HS.out]; exact HC.out, by rw [HBf.out]; exact HOwn.out, ((FP.Out.of_below HB4.out).then HOut.out (fun j hj e => (HO3.out.lt j e).1)).below (fun j hj _ hn => by omega) (Nat.le_refl _)⟩
              case measure => simp [Go.RowKit.intOf]; omega
            · have kb : (kx != 2) = true := by simp [hk2]
              have hsh := sh_at HX.out hk2
              rw [← HC.out] at hsh
              simp only [] at hsh
              have hcm : (c : Int) < m := by
                have := (List.getElem?_eq_some_iff.1 hsh).1
                rw [HLn.out] at this
                omega
              obtain ⟨g', o', rfl, hg', hcl2⟩ := (LL.out.below HB4.out) (by rw [HLn.out]; omega)
              have s0 := hcl2 c _ hsh
              obtain ⟨F, hF⟩ : ∃ F : ByteArray, ⟨(HS.shaL xd).toArray⟩ = F := ⟨_, rfl⟩
              obtain ⟨G, hG⟩ : ∃ G : ByteArray, ⟨(HR.hexL (HS.shaL xd)).toArray⟩ = G := ⟨_, rfl⟩
              have HGt : Hid (txt (HR.hexL (HS.shaL xd)) = .string G) := Lib.hid (by unfold txt; rw [hG])
              rw [hF] at s0
              have CH : Hid (∀ W, Calls Tryz.prog 62 #[.string F] W fun e w' => e = .returned (.string G) ∧ Below W.heap.size W w') := Lib.hid (fun W => by
                have this := HR.rhex_any F W (by rw [Lib.size_eq, ← hF]; have := sha_len xd; simp only []; omega)
                rw [show F.data.toList = HS.shaL xd by rw [← hF], hG] at this
                exact this)
              have HBf : Hid ((ts.take (i + 1)).map bareF = (ts.take i).map bareF ++ [⟨xp, kx, HR.hexL (HS.shaL xd), mx⟩]) := Lib.hid (by
                rw [List.take_add_one, HX.out, Option.toList_some, List.map_append]
                have : bareF ⟨xp, kx, xd, mx⟩ = ⟨xp, kx, HR.hexL (HS.shaL xd), mx⟩ := by unfold bareF; rw [if_neg hk2]
                rw [List.map_singleton, this])
              have HS' := Lib.hid (dt_snoc HX.out hk2)
              clear hk2 hsh hcl2 hF hG
              go_wp2_with fail
              refine (CH.out _).mono ?_
              rintro r V1 ⟨rfl, hb1⟩
              simp only []
              have R1 := Lib.hid ((hb1.block _ (Array.getElem?_eq_some_iff.1 R0.out).1).trans R0.out)
              have HO4 := Lib.hid (owns_below HO3.out hb1)
              have HB5 := Lib.hid (HB4.out.trans (hb1.mono HB4.out.size))
              clear hb1
              obtain ⟨n0, n1, n2, n3, nf⟩ := cell4 R1.out
              obtain ⟨V2, hV2⟩ : ∃ W, V1.setCell ⟨wr.heap.size, 2, none⟩ (.string G) = W := ⟨_, rfl⟩
              have o2 : FP.Out (· = wr.heap.size) V1 V2 := by rw [← hV2]; exact (FP.Out.refl (· = wr.heap.size) V1).setCell (p := ⟨wr.heap.size, 2, none⟩) (fun _ => rfl) _
              have R2 : Hid (V2.heap[wr.heap.size]? = some (.cells #[.string X, .int .i64 kx, .string G, .int .i64 mx] 25 (0, 0))) := Lib.hid (by rw [← hV2]; exact (AD.row_set R1.out _).trans rfl)
              have HO5 := Lib.hid (o2.owns HO4.out (fun q hq e => by have := HBl.out q hq; omega))
              have HB6 := Lib.hid (((FP.Out.of_below HB5.out).then o2 (fun j hj e => by have := HBx.out; omega)).below (fun j hj _ hn => by omega) (Nat.le_refl _))
              obtain ⟨l0, l1, l2, l3, lf⟩ := cell4 R2.out
              obtain ⟨ap, cp, W4, hrun, hown, hout⟩ := AD.node_step (n := ⟨xp, kx, HR.hexL (HS.shaL xd), mx⟩) HO5.out HXt.out HGt.out (by omega) HB6.out.size
              have HOwn := Lib.hid hown
              have HOut := Lib.hid hout
              clear hown hout o2
              go_wp2_with (first | (at_builtin; refine wpList_append_run _ rfl _ _ _ _ rfl _ _ rfl rfl _ _ hrun ?_))
              go_round
              case rel => exact ⟨i + 1, c + 1, ap, cp, by go_num, by go_num, rfl, by rw [HN.out]; omega, by rw [HS'.out, List.length_append, ← HC.out]; rfl, by rw [HBf.out]; exact HOwn.out, ((FP.Out.of_below HB6.out).then HOut.out (fun j hj e => (HO5.out.lt j e).1)).below (fun j hj _ hn => by omega) (Nat.le_refl _)⟩
              case measure => simp [Go.RowKit.intOf]; omega
          · have hiz : ¬ (i : Int) < n := by omega
            have hin : n = i := by omega
            subst hin
            clear hlt
            repeat (first | go_skip | go_guarded | go_step | go_upon)
            go_ret
            refine ⟨_, rfl, ?_, HBr.out⟩
            have := owns_base HO2.out w.heap.size HB2.out.size
            rw [HAll.out] at this
            exact this
end HV
end Go.Proofs.YtfkaackhikbbkaaGreatDoor
