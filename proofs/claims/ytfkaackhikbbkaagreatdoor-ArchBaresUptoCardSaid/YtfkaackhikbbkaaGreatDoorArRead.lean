/- Layer 9: the contract of the program's read. -/
import Derived.Test.YtfkaackhikbbkaaGreatDoorArReadM
import Derived.Laws.ResultCell
import Derived.BigRegion
import Derived.BigQuiet
import Derived.Deep.RegionWith
import Derived.Lib.QuietBelow
namespace Go.Proofs.YtfkaackhikbbkaaGreatDoor
open Go.RowKit Go.Lib Go.BigFrame
namespace AD
open OM TP TM TR AP AR FP
open CR (At ptr NPost TPost num_all text_all count_all end_all endR)

def ReadPost (a : Ar) (ok : Bool) (w : World) (r : Ending) (w' : World) : Prop :=
  ∃ vt vs, r = .returned (.tuple #[.agg #[txt a.pair, .int .i64 a.serial, vt, vs], .bool ok]) ∧ w'.ownsRow w.heap.size 25 4 vt a.tree.length (nodesC a.tree) ∧ w'.ownsRow w.heap.size 67 3 vs a.stamps.length (smsC a.stamps) ∧ Below w.heap.size w w'
theorem ver_eq {l : List UInt8} {T : ByteArray} (h : T.data.toList = l) : (T.toList == [104, 97, 119, 115, 101, 114, 32, 49]) = decide (l = ver) := by
  rw [Lib.toList_data, h]
  show (l == ver) = _
  rw [Bool.eq_iff_iff]
  simp
theorem RIn.fin {w : World} {B rb ab rs : Nat} {ca cr : Array Value} {r : Rd} {n m : Nat} {ts : List Nd} {us : List Sm} {vt vs : Value} {wr W : World} (h : RIn w B rb ab rs ca cr r n m ts us vt vs wr) (hrs : w.heap.size ≤ rs) (ho : Out (· = rs) wr W) :
    W.ownsRow w.heap.size 25 4 vt n (nodesC ts) ∧ W.ownsRow w.heap.size 67 3 vs m (smsC us) ∧ Below w.heap.size w W := by
  have h1 := h.rsB
  have h2 := h.rbw
  have h3 := h.rbB
  refine ⟨owns_base (ho.owns h.nds (fun g hg e => by have := (h.nds.lt g hg).1; omega)) _ (by omega), owns_base (ho.owns h.sms (fun g hg e => by have := (h.sms.lt g hg).1; omega)) _ (by omega), ?_⟩
  exact ((Out.of_below h.below).then ho (fun j hj e => by omega)).below (fun j hj _ hn => by omega) (Nat.le_refl _)
def LInv (w : World) (B rb ab rs : Nat) (P4 : ByteArray) (s5 : Nat) (d6 : Rd) (n : Nat) (s : Value) (wr : World) : Prop :=
  ∃ (k : Nat) (a1 : Option Addr) (c1 : Nat) (a2 : Option Addr) (c2 : Nat), s = .int .i64 k ∧ k ≤ n ∧
    RIn w B rb ab rs #[.string P4, .int .i64 (s5 : Nat)] #[.string ⟨#[]⟩, .int .i64 0, .slice none 0 0, .slice none 0 0] (rNodes k d6).2.2 k k (rNodes k d6).1 (rNodes k d6).2.1 (.slice a1 k c1) (.slice a2 k c2) wr
set_option maxRecDepth 100000 in
set_option maxHeartbeats 6400000 in
theorem read_any (p : List UInt8) (S : ByteArray) (w : World) (hS : S.data.toList = p) (hl : p.length ≤ maxLen) :
    Calls Tryz.prog 42 #[.string S] w (ReadPost (readA p).1 (readA p).2 w) := by
  obtain ⟨w1, hw1⟩ : ∃ w1, w.alloc (.cells #[.string ⟨#[]⟩, .int .i64 0, .slice none 0 0, .slice none 0 0] 35) = w1 := ⟨_, rfl⟩
  have b1 : Below w.heap.size w w1 := by rw [← hw1]; exact (Below.refl _ _).alloc (Nat.le_refl _) _
  have r1 : w1.heap[w.heap.size]? = some (.cells #[.string ⟨#[]⟩, .int .i64 0, .slice none 0 0, .slice none 0 0] 35 (0, 0)) := by rw [← hw1]; exact heap_alloc_new w _
  obtain ⟨rb, hrb⟩ : ∃ rb, w1.heap.size = rb := ⟨_, rfl⟩
  obtain ⟨rs, hrs⟩ : ∃ rs, w.heap.size = rs := ⟨_, rfl⟩
  have hz1 : rb = rs + 1 := by rw [← hrb, ← hrs, ← hw1]; simp
  have HZ := Lib.hid hz1
  have CN := CR.new_any S w1
  rw [hrb] at CN
  have CN := Lib.hid CN
  have HS := Lib.hid hS
  have HL := Lib.hid hl
  rw [hrs] at r1 b1
  have B1 := Lib.hid b1
  have R1 := Lib.hid r1
  have HRS := Lib.hid hrs
  have HRB := Lib.hid hrb
  clear hS hl b1 r1 hz1
  go_enter Tryz.func42, Tryz.ntmps42
  repeat (first | (go_at_call 74; fail) | go_skip | go_guarded | go_step | go_upon)
  refine CN.out.mono ?_
  rintro r w2 ⟨rfl, hr, hb⟩
  simp only []
  have A2 : Hid (At rb (p, 0) w2) := Lib.hid ⟨S, HS.out, hr⟩
  have hrsb : rs < rb := by have := HZ.out; omega
  have R2 := Lib.hid ((hb.block _ hrsb).trans R1.out)
  have B2 : Hid (Below rs w w2) := Lib.hid (B1.out.trans (hb.mono (by omega)))
  have HRSB := Lib.hid hrsb
  clear hr hb hrsb
  have c3 := text_all rb 8 (p, 0) w2 A2.out HL.out
  obtain ⟨x3, hx3⟩ : ∃ x, rTxt 8 (p, 0) = x := ⟨_, rfl⟩
  have HX3 := Lib.hid hx3
  rw [hx3] at c3
  clear hx3
  obtain ⟨v3, d3⟩ := x3
  obtain ⟨T, hT⟩ : ∃ T : ByteArray, ⟨v3.toArray⟩ = T := ⟨_, rfl⟩
  have hTd : T.data.toList = v3 := by rw [← hT]
  unfold TPost at c3
  simp only [hT] at c3
  have C3 := Lib.hid c3
  have hTv := ver_eq hTd
  clear c3 hT hTd
  repeat (first | (go_at_call 75; fail) | go_skip | go_guarded | go_step | go_upon)
  refine C3.out.mono ?_
  rintro r w3 ⟨rfl, ha3, hb3⟩
  simp only []
  have A3 := Lib.hid ha3
  have O3 := Lib.hid hb3
  have R3 := Lib.hid (hb3.row R2.out (fun e => by have := HRSB.out; omega))
  have B3 : Hid (Below rs w w3) := Lib.hid (((Out.of_below B2.out).then hb3 (fun j hj e => by have := HRSB.out; omega)).below (fun j hj _ hn => by omega) (by have := HRS.out; omega))
  by_cases hv : v3 = ver
  · rw [decide_eq_true hv] at hTv
    have HV := Lib.hid hv
    clear hv ha3 hb3
    have HL3 : Hid (d3.1.length ≤ maxLen) := Lib.hid (by
      have := CR.txt_left 8 (p, 0)
      rw [HX3.out] at this
      exact Nat.le_trans this HL.out)
    have c4 := text_all rb 64 d3 w3 A3.out HL3.out
    obtain ⟨x4, hx4⟩ : ∃ x, rTxt 64 d3 = x := ⟨_, rfl⟩
    have HX4 := Lib.hid hx4
    rw [hx4] at c4
    clear hx4
    obtain ⟨v4, d4⟩ := x4
    have HL4 : Hid (d4.1.length ≤ maxLen) := Lib.hid (by
      have := CR.txt_left 64 d3
      rw [HX4.out] at this
      exact Nat.le_trans this HL3.out)
    obtain ⟨P4, hP4⟩ : ∃ T : ByteArray, ⟨v4.toArray⟩ = T := ⟨_, rfl⟩
    have HP4 := Lib.hid hP4
    unfold TPost at c4
    simp only [hP4] at c4
    have C4 := Lib.hid c4
    clear c4 hP4
    repeat (first | (go_at_call 75; fail) | go_skip | go_guarded | go_step | go_upon)
    refine C4.out.mono ?_
    rintro r w4 ⟨rfl, ha4, hb4⟩
    simp only []
    have A4 := Lib.hid ha4
    have c5 := num_all rb d4 w4 ha4 HL4.out
    obtain ⟨x5, hx5⟩ : ∃ x, rNum d4 = x := ⟨_, rfl⟩
    have HX5 := Lib.hid hx5
    rw [hx5] at c5
    clear hx5
    obtain ⟨s5, d5⟩ := x5
    have HL5 : Hid (d5.1.length ≤ maxLen) := Lib.hid (by
      have := CR.num_left d4
      rw [HX5.out] at this
      exact Nat.le_trans this HL4.out)
    have C5 := Lib.hid c5
    have R4 := Lib.hid (hb4.row R3.out (fun e => by have := HRSB.out; omega))
    have B4 : Hid (Below rs w w4) := Lib.hid (((Out.of_below B3.out).then hb4 (fun j hj e => by have := HRSB.out; omega)).below (fun j hj _ hn => by omega) (by have := HRS.out; omega))
    clear c5 ha4 hb4
    repeat (first | (go_at_call 76; fail) | go_skip | go_guarded | go_step | go_upon)
    refine C5.out.mono ?_
    rintro r w5 ⟨rfl, ha5, hb5⟩
    simp only []
    have R5 := Lib.hid (hb5.row R4.out (fun e => by have := HRSB.out; omega))
    have B5 : Hid (Below rs w w5) := Lib.hid (((Out.of_below B4.out).then hb5 (fun j hj e => by have := HRSB.out; omega)).below (fun j hj _ hn => by omega) (by have := HRS.out; omega))
    obtain ⟨ab, hab⟩ : ∃ ab, w5.heap.size = ab := ⟨_, rfl⟩
    obtain ⟨w6, hw6⟩ : ∃ w6, w5.alloc (.cells #[.string P4, .int .i64 (s5 : Nat), .slice none 0 0, .slice none 0 0] 35) = w6 := ⟨_, rfl⟩
    have b6 : Below w5.heap.size w5 w6 := by rw [← hw6]; exact (Below.refl _ _).alloc (Nat.le_refl _) _
    have r6 : w6.heap[ab]? = some (.cells #[.string P4, .int .i64 (s5 : Nat), .slice none 0 0, .slice none 0 0] 35 (0, 0)) := by rw [← hw6, ← hab]; exact heap_alloc_new w5 _
    have ho6 : Out (fun k => w5.heap.size ≤ k) w5 w6 := Out.of_below b6
    have hrb5 := ha5.lt
    have ha6 := ha5.out ho6 (fun e => by omega)
    have hrs5 := (Array.getElem?_eq_some_iff.1 R5.out).1
    have R6 := Lib.hid (ho6.row R5.out (fun e => by omega))
    have B6 : Hid (Below rs w w6) := Lib.hid (B5.out.trans (b6.mono (by omega)))
    have RA6 := Lib.hid r6
    have HABr : Hid (rb < ab ∧ rs < ab) := Lib.hid ⟨by omega, by omega⟩
    have HAB := Lib.hid hab
    have c6 := count_all rb 1000 8 d5 w6 ha6 HL5.out
    obtain ⟨x6, hx6⟩ : ∃ x, rCnt 1000 8 d5 = x := ⟨_, rfl⟩
    have HX6 := Lib.hid hx6
    rw [hx6] at c6
    have hn6 := CR.cnt_most 1000 8 d5 (by decide)
    rw [hx6] at hn6
    clear hx6
    obtain ⟨n, d6⟩ := x6
    simp only [] at hn6
    have HL6 : Hid (d6.1.length ≤ maxLen) := Lib.hid (by
      have := CR.cnt_left 1000 8 d5
      rw [HX6.out] at this
      exact Nat.le_trans this HL5.out)
    have C6 := Lib.hid c6
    have HW6 := Lib.hid hw6
    clear c6 ha5 hb5 ha6 ho6 r6 b6 hrb5 hrs5 hw6 hab
    repeat (first | (go_at_call 77; fail) | go_skip | go_guarded | go_step | go_upon)
    rw [HW6.out, HAB.out]
    refine C6.out.mono ?_
    rintro r w7 ⟨rfl, ha7, hb7⟩
    simp only []
    have HI : Hid (RIn w w7.heap.size rb ab rs #[.string P4, .int .i64 (s5 : Nat)] #[.string ⟨#[]⟩, .int .i64 0, .slice none 0 0, .slice none 0 0] d6 0 0 [] [] (.slice none 0 0) (.slice none 0 0) w7) := Lib.hid (by
      have r7 := hb7.row R6.out (fun e => by have := HRSB.out; omega)
      have a7 := hb7.row RA6.out (fun e => by have := HABr.out; omega)
      have b7 : Below rs w w7 := ((Out.of_below B6.out).then hb7 (fun j hj e => by have := HRSB.out; omega)).below (fun j hj _ hn => by omega) (by have := HRS.out; omega)
      have := HRSB.out
      have := HABr.out
      have h1 := HRS.out
      rw [← h1] at b7
      exact ⟨ha7, a7, r7, World.ownsRow_nil _ _ _ _, World.ownsRow_nil _ _ _ _, b7, Nat.le_refl _, ha7.lt, (Array.getElem?_eq_some_iff.1 a7).1, (Array.getElem?_eq_some_iff.1 r7).1, by omega, by omega, by omega, by omega, by omega, rfl⟩)
    obtain ⟨B, hB⟩ : ∃ B, w7.heap.size = B := ⟨_, rfl⟩
    rw [hB] at HI
    clear hB ha7 hb7
    repeat (first | go_skip | go_guarded | go_step | go_upon)
    go_loopw [19] (fun s19 wr => LInv w B rb ab rs P4 s5 d6 n s19 wr) (fun s19 _ => n - (Go.RowKit.intOf s19).toNat)
    case atStart => exact ⟨0, none, 0, none, 0, rfl, Nat.zero_le _, HI.out⟩
    case round =>
      obtain ⟨k, a1, c1, a2, c2, rfl, hk, hin⟩ := hrel
      have HIn := Lib.hid hin
      clear hin
      by_cases hlt : k < n
      · have hkz : (k : Int) < n := by omega
        have HLk : Hid ((rNodes k d6).2.2.1.length ≤ maxLen) := Lib.hid (Nat.le_trans (CR.nodes_left k d6) HL6.out)
        obtain ⟨rk, hrk⟩ : ∃ r, (rNodes k d6).2.2 = r := ⟨_, rfl⟩
        obtain ⟨ts, hts⟩ : ∃ r, (rNodes k d6).1 = r := ⟨_, rfl⟩
        obtain ⟨us, hus⟩ : ∃ r, (rNodes k d6).2.1 = r := ⟨_, rfl⟩
        have IN0 := HIn.out.thenBelow ((Below.refl _ _).drew)
        rw [hrk, hts, hus] at IN0
        rw [hrk] at HLk
        obtain ⟨y1, hy1⟩ : ∃ x, rTxt 400 rk = x := ⟨_, rfl⟩
        have HY1 := Lib.hid hy1
        have cc1 := fun (W : World) (hW : At rb rk W) => text_all rb 400 rk W hW HLk.out
        rw [hy1] at cc1
        clear hy1
        obtain ⟨v1', e1⟩ := y1
        obtain ⟨X1, hX1⟩ : ∃ T : ByteArray, ⟨v1'.toArray⟩ = T := ⟨_, rfl⟩
        have HX1' := Lib.hid hX1
        unfold TPost at cc1
        simp only [hX1] at cc1
        clear hX1
        have CC1 := Lib.hid cc1
        clear cc1
        have HLe1 : Hid (e1.1.length ≤ maxLen) := Lib.hid (by
          have := CR.txt_left 400 rk
          rw [HY1.out] at this
          exact Nat.le_trans this HLk.out)
        obtain ⟨y2, hy2⟩ : ∃ x, rNum e1 = x := ⟨_, rfl⟩
        have HY2 := Lib.hid hy2
        have cc2 := fun (W : World) (hW : At rb e1 W) => num_all rb e1 W hW HLe1.out
        rw [hy2] at cc2
        clear hy2
        obtain ⟨v2', e2⟩ := y2
        have CC2 := Lib.hid cc2
        clear cc2
        have HLe2 : Hid (e2.1.length ≤ maxLen) := Lib.hid (by
          have := CR.num_left e1
          rw [HY2.out] at this
          exact Nat.le_trans this HLe1.out)
        obtain ⟨y3, hy3⟩ : ∃ x, rNum e2 = x := ⟨_, rfl⟩
        have HY3 := Lib.hid hy3
        have cc3 := fun (W : World) (hW : At rb e2 W) => num_all rb e2 W hW HLe2.out
        rw [hy3] at cc3
        clear hy3
        obtain ⟨v3', e3⟩ := y3
        have CC3 := Lib.hid cc3
        clear cc3
        have HLe3 : Hid (e3.1.length ≤ maxLen) := Lib.hid (by
          have := CR.num_left e2
          rw [HY3.out] at this
          exact Nat.le_trans this HLe2.out)
        obtain ⟨y4, hy4⟩ : ∃ x, rTxt 64 e3 = x := ⟨_, rfl⟩
        have HY4 := Lib.hid hy4
        have cc4 := fun (W : World) (hW : At rb e3 W) => text_all rb 64 e3 W hW HLe3.out
        rw [hy4] at cc4
        clear hy4
        obtain ⟨v4', e4⟩ := y4
        obtain ⟨X4, hX4⟩ : ∃ T : ByteArray, ⟨v4'.toArray⟩ = T := ⟨_, rfl⟩
        have HX4' := Lib.hid hX4
        unfold TPost at cc4
        simp only [hX4] at cc4
        clear hX4
        have CC4 := Lib.hid cc4
        clear cc4
        have HLe4 : Hid (e4.1.length ≤ maxLen) := Lib.hid (by
          have := CR.txt_left 64 e3
          rw [HY4.out] at this
          exact Nat.le_trans this HLe3.out)
        obtain ⟨y5, hy5⟩ : ∃ x, rNum e4 = x := ⟨_, rfl⟩
        have HY5 := Lib.hid hy5
        have cc5 := fun (W : World) (hW : At rb e4 W) => num_all rb e4 W hW HLe4.out
        rw [hy5] at cc5
        clear hy5
        obtain ⟨v5', e5⟩ := y5
        have CC5 := Lib.hid cc5
        clear cc5
        have HLe5 : Hid (e5.1.length ≤ maxLen) := Lib.hid (by
          have := CR.num_left e4
          rw [HY5.out] at this
          exact Nat.le_trans this HLe4.out)
        obtain ⟨y6, hy6⟩ : ∃ x, rNum e5 = x := ⟨_, rfl⟩
        have HY6 := Lib.hid hy6
        have cc6 := fun (W : World) (hW : At rb e5 W) => num_all rb e5 W hW HLe5.out
        rw [hy6] at cc6
        clear hy6
        obtain ⟨v6', e6⟩ := y6
        have CC6 := Lib.hid cc6
        clear cc6
        have HLe6 : Hid (e6.1.length ≤ maxLen) := Lib.hid (by
          have := CR.num_left e5
          rw [HY6.out] at this
          exact Nat.le_trans this HLe5.out)
        obtain ⟨y7, hy7⟩ : ∃ x, rNum e6 = x := ⟨_, rfl⟩
        have HY7 := Lib.hid hy7
        have cc7 := fun (W : World) (hW : At rb e6 W) => num_all rb e6 W hW HLe6.out
        rw [hy7] at cc7
        clear hy7
        obtain ⟨v7', e7⟩ := y7
        have CC7 := Lib.hid cc7
        clear cc7
        have HLe7 : Hid (e7.1.length ≤ maxLen) := Lib.hid (by
          have := CR.num_left e6
          rw [HY7.out] at this
          exact Nat.le_trans this HLe6.out)
        have HNx : Hid (rNodes (k + 1) d6 = (ts ++ [⟨v1', v2', v4', v3'⟩], us ++ [⟨v5', v6', v7'⟩], e7)) := Lib.hid (by
          have hn : rNode rk = ((⟨v1', v2', v4', v3'⟩, ⟨v5', v6', v7'⟩), e7) := by
            unfold rNode
            simp only []
            rw [HY1.out]
            simp only []
            rw [HY2.out]
            simp only []
            rw [HY3.out]
            simp only []
            rw [HY4.out]
            simp only []
            rw [HY5.out]
            simp only []
            rw [HY6.out]
            simp only []
            rw [HY7.out]
          rw [rNodes, hrk, hn, hts, hus])
        have HK1 : Hid (k ≤ 1000) := Lib.hid (by omega)
        have HT1 : Hid (txt v1' = .string X1) := Lib.hid (by unfold txt; rw [HX1'.out])
        have HT4 : Hid (txt v4' = .string X4) := Lib.hid (by unfold txt; rw [HX4'.out])
        have I0 := Lib.hid IN0
        have s2 : wr.drew.cell? ⟨ab, 2, none⟩ = some (.slice a1 k c1) := by rw [cell_of_row _ _ 2 _ _ _ IN0.row]; rfl
        have s2w : wr.cell? ⟨ab, 2, none⟩ = some (.slice a1 k c1) := s2
        clear IN0 hrk hts hus hlt
        repeat (first | go_skip | go_guarded | go_step | go_upon)
        refine wp_region_noPanic ?_
        with_reducible refine QT.region_pick (S := fun w' => w'.cell? ⟨ab, 2, none⟩ = some (.slice a1 k c1)) [0, 1, 2, 4, 6, 8] [3, 5, 7, 9, 10, 11, 12] 13 (by kernel_rfl) (by kernel_rfl) ?_ ?_ ?_
        · exact fun _ _ _ _ _ h => h
        · exact s2
        intro _
        simp only [QT.pick, List.filterMap_cons, List.filterMap_nil, List.getElem?_cons_succ, List.getElem?_cons_zero, List.drop_succ_cons, List.drop_zero]
        iterate 6 (refine QT.wpTake_cons _ (by rfl) (by intro w' hSw; go_simp; first | done | rfl) ?_; try simp only [Act.put, List.setIfInBounds_toArray, List.set_cons_zero, List.set_cons_succ])
        refine QT.wpTake_nil ?_
        intro K' hK
        rw [if_pos (by rfl)]
        go_simp
        refine (CC1.out _ I0.out.rd).mono ?_
        rintro r V1 ⟨rfl, hva, hvo⟩
        simp only []
        have J1 := Lib.hid (I0.out.turn hva hvo)
        refine hK.out _ _ ((cell_of_row _ _ 2 _ _ _ J1.out.row).trans rfl) ?_
        clear hK K' hva hvo
        try simp only [Act.put, List.setIfInBounds_toArray, List.set_cons_zero, List.set_cons_succ]
        intro K' hK
        rw [if_pos (by rfl)]
        go_simp
        refine (CC2.out _ J1.out.rd).mono ?_
        rintro r V2 ⟨rfl, hva, hvo⟩
        simp only []
        have J2 := Lib.hid (J1.out.turn hva hvo)
        refine hK.out _ _ ((cell_of_row _ _ 2 _ _ _ J2.out.row).trans rfl) ?_
        clear hK K' hva hvo
        try simp only [Act.put, List.setIfInBounds_toArray, List.set_cons_zero, List.set_cons_succ]
        intro K' hK
        rw [if_pos (by rfl)]
        go_simp
        refine (CC3.out _ J2.out.rd).mono ?_
        rintro r V3 ⟨rfl, hva, hvo⟩
        simp only []
        have J3 := Lib.hid (J2.out.turn hva hvo)
        refine hK.out _ _ ((cell_of_row _ _ 2 _ _ _ J3.out.row).trans rfl) ?_
        clear hK K' hva hvo
        try simp only [Act.put, List.setIfInBounds_toArray, List.set_cons_zero, List.set_cons_succ]
        intro K' hK
        rw [if_pos (by rfl)]
        go_simp
        refine (CC4.out _ J3.out.rd).mono ?_
        rintro r V4 ⟨rfl, hva, hvo⟩
        simp only []
        have J4 := Lib.hid (J3.out.turn hva hvo)
        refine hK.out _ _ ((cell_of_row _ _ 2 _ _ _ J4.out.row).trans rfl) ?_
        clear hK K' hva hvo
        try simp only [Act.put, List.setIfInBounds_toArray, List.set_cons_zero, List.set_cons_succ]
        intro K' hK
        rw [if_pos (by rfl)]
        go_simp
        refine hK.out _ _ ((cell_of_row _ _ 2 _ _ _ J4.out.row).trans rfl) ?_
        clear hK K'
        try simp only [Act.put, List.setIfInBounds_toArray, List.set_cons_zero, List.set_cons_succ]
        obtain ⟨ap, cp, V5, hrun, hown, hout⟩ := node_step (n := ⟨v1', v2', v4', v3'⟩) J4.out.nds HT1.out HT4.out HK1.out J4.out.big
        intro K' hK
        rw [if_pos (by rfl)]
        go_simp
        refine hK.out _ _ ((cell_of_row _ _ 2 _ _ _ (J4.out.thenBelow ((Below.refl _ _).alloc (Nat.le_refl _) _)).row).trans rfl) ?_
        clear hK K'
        try simp only [Act.put, List.setIfInBounds_toArray, List.set_cons_zero, List.set_cons_succ]
        intro K' hK
        refine step_app_eq rfl (.tmp 22) (.tmp 32) 22 22 rfl (.slice a1 k c1) (.slice (some ⟨V4.heap.size, 0, none⟩) 1 1) rfl rfl hrun ?_
        have hrow5 := hout.row J4.out.row (fun e => by have := (J4.out.nds.lt _ e).1; have := J4.out.abB; omega)
        have x2 : V5.cell? ⟨ab, 2, none⟩ = some (.slice a1 k c1) := by rw [cell_of_row _ _ 2 _ _ _ hrow5]; rfl
        have xf : V5.frozen? ⟨ab, 2, none⟩ = false := frozen_of_row V5 ab 2 _ _ hrow5
        refine hK.out _ _ x2 ?_
        clear hK K'
        refine QT.wpDo_nil ?_
        try simp only [Act.put, List.setIfInBounds_toArray, List.set_cons_zero, List.set_cons_succ]
        have I5 := Lib.hid (J4.out.node hown hout)
        obtain ⟨W8, hW8⟩ : ∃ W8, V5.setCell ⟨ab, 2, none⟩ (.slice ap (k + 1) cp) = W8 := ⟨_, rfl⟩
        rw [hW8] at I5
        have I6 := Lib.hid (I5.out.thenBelow ((Below.refl _ _).drew))
        clear hrun hown hout hrow5 s2 s2w
        repeat (first | go_skip | go_guarded | go_step | go_upon)
        refine NoPanic.normal ?_
        try rw [hW8]
        have s2 : W8.drew.cell? ⟨ab, 3, none⟩ = some (.slice a2 k c2) := by rw [cell_of_row _ _ 3 _ _ _ I6.out.row]; rfl
        have s2w : W8.cell? ⟨ab, 3, none⟩ = some (.slice a2 k c2) := s2
        clear x2 xf hW8
        repeat (first | go_skip | go_guarded | go_step | go_upon)
        refine wp_region_noPanic ?_
        with_reducible refine QT.region_pick (S := fun w' => w'.cell? ⟨ab, 3, none⟩ = some (.slice a2 k c2)) [0, 1, 2, 4, 6] [3, 5, 7, 8, 9, 10] 11 (by kernel_rfl) (by kernel_rfl) ?_ ?_ ?_
        · exact fun _ _ _ _ _ h => h
        · exact s2
        intro _
        simp only [QT.pick, List.filterMap_cons, List.filterMap_nil, List.getElem?_cons_succ, List.getElem?_cons_zero, List.drop_succ_cons, List.drop_zero]
        iterate 5 (refine QT.wpTake_cons _ (by rfl) (by intro w' hSw; go_simp; first | done | rfl) ?_; try simp only [Act.put, List.setIfInBounds_toArray, List.set_cons_zero, List.set_cons_succ])
        refine QT.wpTake_nil ?_
        intro K' hK
        rw [if_pos (by rfl)]
        go_simp
        refine (CC5.out _ I6.out.rd).mono ?_
        rintro r V6 ⟨rfl, hva, hvo⟩
        simp only []
        have J6 := Lib.hid (I6.out.turn hva hvo)
        refine hK.out _ _ ((cell_of_row _ _ 3 _ _ _ J6.out.row).trans rfl) ?_
        clear hK K' hva hvo
        try simp only [Act.put, List.setIfInBounds_toArray, List.set_cons_zero, List.set_cons_succ]
        intro K' hK
        rw [if_pos (by rfl)]
        go_simp
        refine (CC6.out _ J6.out.rd).mono ?_
        rintro r V7 ⟨rfl, hva, hvo⟩
        simp only []
        have J7 := Lib.hid (J6.out.turn hva hvo)
        refine hK.out _ _ ((cell_of_row _ _ 3 _ _ _ J7.out.row).trans rfl) ?_
        clear hK K' hva hvo
        try simp only [Act.put, List.setIfInBounds_toArray, List.set_cons_zero, List.set_cons_succ]
        intro K' hK
        rw [if_pos (by rfl)]
        go_simp
        refine (CC7.out _ J7.out.rd).mono ?_
        rintro r V8 ⟨rfl, hva, hvo⟩
        simp only []
        have J8 := Lib.hid (J7.out.turn hva hvo)
        refine hK.out _ _ ((cell_of_row _ _ 3 _ _ _ J8.out.row).trans rfl) ?_
        clear hK K' hva hvo
        try simp only [Act.put, List.setIfInBounds_toArray, List.set_cons_zero, List.set_cons_succ]
        intro K' hK
        rw [if_pos (by rfl)]
        go_simp
        refine hK.out _ _ ((cell_of_row _ _ 3 _ _ _ J8.out.row).trans rfl) ?_
        clear hK K'
        try simp only [Act.put, List.setIfInBounds_toArray, List.set_cons_zero, List.set_cons_succ]
        obtain ⟨aq, cq, V9, hrun, hown, hout⟩ := stamp_step (s := ⟨v5', v6', v7'⟩) J8.out.sms HK1.out J8.out.big
        intro K' hK
        rw [if_pos (by rfl)]
        go_simp
        refine hK.out _ _ ((cell_of_row _ _ 3 _ _ _ (J8.out.thenBelow ((Below.refl _ _).alloc (Nat.le_refl _) _)).row).trans rfl) ?_
        clear hK K'
        try simp only [Act.put, List.setIfInBounds_toArray, List.set_cons_zero, List.set_cons_succ]
        intro K' hK
        refine step_app_eq rfl (.tmp 36) (.tmp 44) 33 33 rfl (.slice a2 k c2) (.slice (some ⟨V8.heap.size, 0, none⟩) 1 1) rfl rfl hrun ?_
        have hrow5 := hout.row J8.out.row (fun e => by have := (J8.out.sms.lt _ e).1; have := J8.out.abB; omega)
        have x2 : V9.cell? ⟨ab, 3, none⟩ = some (.slice a2 k c2) := by rw [cell_of_row _ _ 3 _ _ _ hrow5]; rfl
        have xf : V9.frozen? ⟨ab, 3, none⟩ = false := frozen_of_row V9 ab 3 _ _ hrow5
        refine hK.out _ _ x2 ?_
        clear hK K'
        refine QT.wpDo_nil ?_
        try simp only [Act.put, List.setIfInBounds_toArray, List.set_cons_zero, List.set_cons_succ]
        have I9 := Lib.hid (J8.out.stamp hown hout)
        clear hrun hown hout hrow5 s2 s2w
        repeat (first | go_skip | go_guarded | go_step | go_upon)
        refine NoPanic.normal ?_
        repeat (first | go_skip | go_guarded | go_step | go_upon)
        refine ⟨⟨k + 1, ap, cp, aq, cq, by go_num, by omega, ?_⟩, by simp [Go.RowKit.intOf]; omega⟩
        rw [HNx.out]
        exact I9.out
      · have hkz : ¬ (k : Int) < n := by omega
        have hkn : k = n := by omega
        subst hkn
        clear hlt
        have HR : Hid (readA p = (⟨v4, (s5 : Nat), (rNodes k d6).1, (rNodes k d6).2.1⟩, decide ((rNodes k d6).2.2.2 = 0 ∧ (rNodes k d6).2.2.1 = []))) := Lib.hid (by
          unfold readA
          simp only []
          rw [HX3.out]
          simp only []
          rw [if_pos HV.out, HX4.out]
          simp only []
          rw [HX5.out]
          simp only []
          rw [HX6.out])
        have HLk : Hid ((rNodes k d6).2.2.1.length ≤ maxLen) := Lib.hid (Nat.le_trans (CR.nodes_left k d6) HL6.out)
        have hln := CR.nodes_len k d6
        have HLn := Lib.hid hln
        obtain ⟨rk, hrk⟩ : ∃ r, (rNodes k d6).2.2 = r := ⟨_, rfl⟩
        have ce := end_all rb rk wr (by rw [← hrk]; exact HIn.out.rd) (by rw [← hrk]; exact HLk.out)
        obtain ⟨z, hz⟩ : ∃ z, endR rk = z := ⟨_, rfl⟩
        have hzb : ((z : Int) == 0) = decide ((rNodes k d6).2.2.2 = 0 ∧ (rNodes k d6).2.2.1 = []) := by
          rw [← hz, hrk, Bool.eq_iff_iff]
          have := CR.end_ok rk
          simp
          rw [this]
        obtain ⟨bz, hbz⟩ : ∃ b, decide ((rNodes k d6).2.2.2 = 0 ∧ (rNodes k d6).2.2.1 = []) = b := ⟨_, rfl⟩
        have HBz := Lib.hid hbz
        rw [hbz] at hzb
        rw [hz] at ce
        have CE := Lib.hid ce
        have CE2' := end_all rb rk wr.drew (by rw [← hrk]; exact (HIn.out.thenBelow ((Below.refl _ _).drew)).rd) (by rw [← hrk]; exact HLk.out)
        rw [hz] at CE2'
        obtain ⟨p0, p1, p2, p3, pf⟩ := cell4 (show wr.heap[ab]? = some (.cells #[.string P4, .int .i64 (s5 : Nat), .slice a1 k c1, .slice a2 k c2] 35 (0, 0)) from HIn.out.row)
        obtain ⟨q0, q1, q2, q3, qf⟩ := cell4 HIn.out.res
        clear ce hz hbz hrk hln
        have CE2 : Hid (Calls Tryz.prog 78 #[ptr rb] wr.drew fun e w' => e = .returned (.int .i64 (z : Nat)) ∧ wr.drew = w') := Lib.hid CE2'
        have qd := q0
        have p0' : wr.drew.cell? ⟨ab, 0, none⟩ = some (.string P4) := p0
        have p1' : wr.drew.cell? ⟨ab, 1, none⟩ = some (.int .i64 (s5 : Nat)) := p1
        have p2' : wr.drew.cell? ⟨ab, 2, none⟩ = some (.slice a1 k c1) := p2
        have p3' : wr.drew.cell? ⟨ab, 3, none⟩ = some (.slice a2 k c2) := p3
        have q0' : wr.drew.cell? ⟨rs, 0, none⟩ = some (.string ⟨#[]⟩) := q0
        have q1' : wr.drew.cell? ⟨rs, 1, none⟩ = some (.int .i64 0) := q1
        have q2' : wr.drew.cell? ⟨rs, 2, none⟩ = some (.slice none 0 0) := q2
        have q3' : wr.drew.cell? ⟨rs, 3, none⟩ = some (.slice none 0 0) := q3
        have qf' : ∀ j, wr.drew.frozen? ⟨rs, j, none⟩ = false := qf
        repeat (first | go_skip | go_guarded | go_step | go_upon)
        go_region_with (go_at_call 78; (first | refine CE2.out.mono ?_ | refine CE.out.mono ?_); rintro r w9 ⟨rfl, rfl⟩)
        all_goals
          repeat (first | go_skip | go_guarded | go_step | go_upon)
          refine bodyPost_ret (v := .tuple #[.agg #[.string P4, .int .i64 (s5 : Nat), .slice a1 k c1, .slice a2 k c2], .bool bz]) ?_ rfl ?_
          · rw [results_cell_tmp rfl]
            go_simp
          · rw [HR.out]
            have hfin := HIn.out.fin (by have := HRS.out; omega) (((((((Out.refl (· = rs) wr).drew).setCell (p := ⟨rs, 0, none⟩) (fun _ => rfl) (.string P4)).setCell (p := ⟨rs, 1, none⟩) (fun _ => rfl) (.int .i64 (s5 : Nat))).setCell (p := ⟨rs, 2, none⟩) (fun _ => rfl) (.slice a1 k c1)).setCell (p := ⟨rs, 3, none⟩) (fun _ => rfl) (.slice a2 k c2)))
            refine ⟨.slice a1 k c1, .slice a2 k c2, ?_, ?_, ?_, ?_⟩
            · simp only []
              rw [HBz.out]
              unfold txt
              rw [HP4.out]
            · simp only []
              rw [HLn.out.1]
              exact hfin.1
            · simp only []
              rw [HLn.out.2]
              exact hfin.2.1
            · exact hfin.2.2
  · rw [decide_eq_false hv] at hTv
    have HF : Hid (readA p = (zeroA, false)) := Lib.hid (by unfold readA; simp only []; rw [HX3.out, if_neg hv])
    obtain ⟨q0, q1, q2, q3, qf⟩ := cell4 R3.out
    clear hv ha3 hb3
    repeat (first | go_skip | go_guarded | go_step | go_upon)
    refine bodyPost_ret (v := .tuple #[.agg #[.string ⟨#[]⟩, .int .i64 0, .slice none 0 0, .slice none 0 0], .bool false]) ?_ rfl ?_
    · rw [results_cell_tmp rfl]
      go_simp
    · rw [HF.out]
      refine ⟨_, _, rfl, World.ownsRow_nil _ _ _ _, World.ownsRow_nil _ _ _ _, ?_⟩
      have b := B3.out
      have e := HRS.out
      rw [e]
      first
        | exact b
        | exact ((((b.setCell (p := ⟨rs, 0, none⟩) (Nat.le_refl _) _).setCell (p := ⟨rs, 1, none⟩) (Nat.le_refl _) _).setCell (p := ⟨rs, 2, none⟩) (Nat.le_refl _) _).setCell (p := ⟨rs, 3, none⟩) (Nat.le_refl _) _)
end AD
end Go.Proofs.YtfkaackhikbbkaaGreatDoor
