/- Layer 4: the contract of the document's sum. -/
import Derived.Test.YtmpmmebmhffaeaaDoorQHashTable
import Derived.Test.YtmpmmebmhffaeaaDoorQHashPad
set_option linter.all false
set_option maxRecDepth 100000
set_option maxHeartbeats 25600000
namespace Go.Proofs.YtmpmmebmhffaeaaDoor
open Go.RowKit Go.Lib
namespace HX
open HP HS HR HQ

/-- A word out of its first bytes. -/
def part (l : List UInt8) (o : Nat) : Nat → Nat
  | 0 => 0
  | j + 1 => (part l o j * 256 % 4294967296 + (l.getD (o + j) 0).toNat) % 4294967296
theorem part_lt (l : List UInt8) (o : Nat) : ∀ j, part l o j < 4294967296
  | 0 => by rw [part]; decide
  | j + 1 => by rw [part]; omega
theorem part_four (l : List UInt8) (i : Nat) : part l (4 * i) 4 = wordBE l i := by
  simp only [part, wordBE, Nat.add_zero]
  have a := (l.getD (4 * i) 0).toNat_lt
  have b := (l.getD (4 * i + 1) 0).toNat_lt
  have c := (l.getD (4 * i + 2) 0).toNat_lt
  have d := (l.getD (4 * i + 3) 0).toNat_lt
  omega
theorem part_at (l : List UInt8) (q i : Nat) (hi : i < 16) : ∀ j, j ≤ 4 → part ((l.drop (64 * q)).take 64) (4 * i) j = part l (64 * q + 4 * i) j
  | 0, _ => rfl
  | j + 1, h => by
    rw [part, part, part_at l q i hi j (by omega), List.getD_eq_getElem?_getD, List.getD_eq_getElem?_getD, List.getElem?_take_of_lt (by omega), List.getElem?_drop, Nat.add_assoc]
/-- The state behind so many blocks. -/
def stateAt (P : List UInt8) (q : Nat) : St := blocks q HS.start (P.take (64 * q))
theorem state_up (P : List UInt8) (q : Nat) (h : 64 * q + 64 ≤ P.length) : stateAt P (q + 1) = blockN (stateAt P q) ((P.drop (64 * q)).take 64) := by
  unfold stateAt
  rw [show 64 * (q + 1) = 64 * q + 64 by omega, List.take_add, blocks_app 1 _ q _ _ (by rw [List.length_take]; omega)]
  rw [blocks, blocks, List.take_take, Nat.min_self]
theorem state_words (P : List UInt8) (q : Nat) : Words (stateAt P q) := words_blocks _ _ _ words_start
theorem made32 (w : World) : ∃ w', (Instr.makeSlice 82 (.int .i64 64) (.int .i64 64)).run Tryd.prog w = .ok (.slice (some ⟨w.heap.size, 0, none⟩) 64 64) w' ∧
    Free32 w' w.heap.size w.heap.size 64 (filled []) ∧ Below w.heap.size w w' := by
  obtain ⟨i0, hi, hz0, hz1, hz2⟩ := info32
  obtain ⟨w', hr, ho, hg⟩ := run_make_full (P := Tryd.prog) w w.heap.size 82 31 i0 (.int .u32 0) 1 Tryd.underlying82 hi hz0 hz1 .i64 .i64 64 (by rw [hz2]; omega) (by unfold maxLen; omega) (Nat.le_refl _)
  rw [Nat.mul_one, show (Value.int IntKind.u32 0).cells = #[.int .u32 0] from rfl, toList_madeCells_one] at ho
  have e : (List.replicate 64 (Value.int .u32 0)) = (filled []).map fun x : Nat => Value.int .u32 x := by rw [filled_nil, List.map_replicate]; rfl
  rw [e] at ho
  obtain ⟨g, c, hv, hF⟩ := free_own ho (by rw [filled_len (by simp)]) (by decide)
  cases hv
  exact ⟨w', hr, hF, (Below.refl _ _).grown hg (Nat.le_refl _) (fun k hk => by cases hk)⟩
/-- At the head of each block. -/
def SumInv (w : World) (P : List UInt8) (N : Nat) (s7 s9 : Value) (wr : World) : Prop :=
  ∃ q : Nat, q ≤ N ∧ s9 = .int .i64 (64 * (q : Int)) ∧ Sl32 wr s7 (stL (stateAt P q)) ∧ Below w.heap.size w wr
/-- The words so far. -/
def WInv (wr : World) (D : List UInt8) (g : Nat) (s11 : Value) (w' : World) : Prop :=
  ∃ (i : Nat) (W : List Nat), i ≤ 64 ∧ s11 = .int .i64 i ∧ W.length = i ∧ (i ≤ 16 → W = (words16 D).take i) ∧ (16 ≤ i → W = schedGo (i - 16) (words16 D)) ∧ Free32 w' wr.heap.size g 64 (filled W) ∧ Below wr.heap.size wr w'
/-- The bytes of one word so far. -/
def JInv (wr : World) (P : List UInt8) (o : Nat) (W : List Nat) (g i : Nat) (s12 : Value) (w' : World) : Prop :=
  ∃ j : Nat, j ≤ 4 ∧ s12 = .int .i64 j ∧ Free32 w' wr.heap.size g 64 ((filled W).set i (part P o j)) ∧ Below wr.heap.size wr w'
theorem wrap_small (n : Nat) (h : n < 9223372036854775808) : IntKind.i64.wrap (n : Int) = n := by rw [IntKind.wrap_i64]; omega
theorem be4_len (x : Nat) : (be4 x).length = 4 := by simp [be4]
theorem len_be4 : ∀ l : List Nat, (l.flatMap be4).length = 4 * l.length
  | [] => rfl
  | x :: l => by rw [List.flatMap_cons, List.length_append, len_be4 l, be4_len, List.length_cons]; omega
theorem be4_take (n k : Nat) (h : k < 4) : (be4 n).take (k + 1) = (be4 n).take k ++ [UInt8.ofNat (n / 2 ^ (8 * (3 - k)) % 256)] := by
  rw [List.take_add_one]
  congr 1
  unfold be4
  rw [List.getElem?_map, List.getElem?_range h]
  rfl
theorem set_none {l : List Nat} {i x : Nat} (h : l[i]? = some x) : l.set i x = l := by
  refine List.ext_getElem? fun j => ?_
  by_cases hij : i = j
  · subst hij
    rw [h, List.getElem?_set_self (List.getElem?_eq_some_iff.1 h).1]
  · rw [List.getElem?_set_ne hij]
set_option maxRecDepth 100000 in
set_option maxHeartbeats 1600000 in
theorem rsum_any (s : ByteArray) (vh vk : Value) (w : World) (hs : s.size ≤ 400) (hh : Sl32 w vh (stL HS.start)) (hk : Sl32 w vk roundK) :
    Calls Tryd.prog 33 #[.string s, vh, vk] w fun r w' => r = .returned (.string ⟨(shaL s.data.toList).toArray⟩) ∧ Below w.heap.size w w' := by
  obtain ⟨i0, hi, hz0, hz1, hz2⟩ := info32
  obtain ⟨gh, ch, rfl, hnews⟩ := news8 w _ vh hh
  have hl8 : (stL HS.start).length = 8 := by rw [start_is]; rfl
  rw [hl8] at hh ⊢
  have hpad := rpad_any s
  obtain ⟨PB, hPB⟩ : ∃ PB : ByteArray, PB = ⟨(padL s.data.toList).toArray⟩ := ⟨_, rfl⟩
  have hPl : PB.data.toList = padL s.data.toList := by rw [hPB]
  rw [← hPB] at hpad
  obtain ⟨N, hN⟩ : ∃ N, PB.size = 64 * N := ⟨PB.size / 64, by have := padL_len s.data.toList; rw [← hPl, ← Lib.size_eq] at this; omega⟩
  have hN8 : N ≤ 8 := by
    have h1 : (padL s.data.toList).length = s.data.toList.length + 9 + noughts s.data.toList.length := endL_len _ _
    have h2 := noughts_lt s.data.toList.length
    rw [← hPl, ← Lib.size_eq, ← Lib.size_eq] at h1
    rw [← Lib.size_eq] at h2
    omega
  have HF : Hid (shaL s.data.toList = (stL (stateAt PB.data.toList N)).flatMap be4) := Lib.hid (by
    unfold shaL stateAt
    rw [outL_is, ← hPl, ← Lib.size_eq, hN, List.take_of_length_le (by rw [← Lib.size_eq, hN]; omega), Nat.mul_div_cancel_left _ (by decide)])
  have HPad : Hid (∀ w, Calls Tryd.prog 51 #[.string s] w fun r w' => r = .returned (.string PB) ∧ Below w.heap.size w w') := Lib.hid (fun w => hpad w hs)
  have HN := Lib.hid hN
  have HH := Lib.hid hh
  have HK := Lib.hid hk
  have HN1 := Lib.hid (fun j u hj => (World.cell?_alloc_lt' w (.cells #[] 31) (hnews_lt (by rw [hl8]; exact hh) j) (hnews j u hj)))
  have H1c : Hid (∀ u ∈ ((stL HS.start).map fun x : Nat => Value.int .u32 x), u.oneCell' = true) := Lib.hid (fun u hu => by
    obtain ⟨x, _, rfl⟩ := List.mem_map.1 hu
    rfl)
  clear hpad hPl hPB hN hh hk hnews hs
  go_enter Tryd.func33, Tryd.ntmps33
  go_wp2_with (first | (at_builtin; refine wpList_append_grows _ rfl _ _ 82 rfl 31 i0 (.int .u32 0) 1 4 Tryd.underlying82 hi hz0 hz1 hz2 rfl (by decide) (some ⟨w.heap.size, 0, none⟩) 0 0 [] rfl (fun h => by cases h) rfl (fun b hb j u hj => by simp at hj) ⟨gh, 0, none⟩ 8 ch ((stL HS.start).map fun x : Nat => Value.int .u32 x) rfl (by rw [List.length_map, hl8]) HN1.out H1c.out (by decide) (by decide) (by decide) ?_; intro v3 w3 hown hgrow; obtain ⟨g3, cap3, rfl, hf3⟩ := free_own (l := stL HS.start) hown (by rw [hl8]) (by decide); have HF3 : Hid (Sl32 w3 (.slice (some ⟨g3, 0, none⟩) (stL HS.start).length cap3) (stL HS.start)) := Lib.hid hf3.sl; have HB3 : Hid (Below w.heap.size w w3) := Lib.hid (Below.grown ((Below.refl _ _).alloc (Nat.le_refl _) _) hgrow (by simp) (fun k hk => by cases hk)); clear hown hgrow hf3) | (go_at_call 51; refine (HPad.out _).mono ?_; rintro r w4 ⟨rfl, hb4⟩; have HF4 := Lib.hid (HF3.out.below hb4); have HB4 := Lib.hid (Below.trans HB3.out (hb4.mono HB3.out.size)); clear hb4))
  go_loopw [7, 9, 10, 11, 12, 13, 14] (fun s7 s9 _ _ _ _ _ wr => SumInv w PB.data.toList N s7 s9 wr) (fun _ s9 _ _ _ _ _ _ => 600 - (Go.RowKit.intOf s9).toNat)
  case atStart => exact ⟨0, Nat.zero_le _, rfl, by rw [show stateAt PB.data.toList 0 = HS.start from rfl]; exact HF4.out, HB4.out⟩
  case round =>
    clear HF3 HB3 HF4 HB4
    obtain ⟨wo, rfl⟩ : ∃ x, x = wr := ⟨_, rfl⟩
    obtain ⟨q, hq, rfl, hsl, hb⟩ := hrel
    have HSl := Lib.hid hsl
    have HB := Lib.hid hb
    have hsz := hb.size
    clear hsl hb
    have hPs := HN.out
    by_cases hlt : q < N
    · have hz : (64 * (q : Int)) < PB.size := by omega
      obtain ⟨w5, hmk, hF5, hb5⟩ := made32 wo
      have HF5 := Lib.hid hF5
      have HB5 := Lib.hid hb5
      obtain ⟨D, hD⟩ : ∃ D, (PB.data.toList.drop (64 * q)).take 64 = D := ⟨_, rfl⟩
      have HD := Lib.hid hD
      clear hF5 hb5 hPs hD
      go_wp2_with fail
      go_loopw [11, 12, 13, 14] (fun s11 _ _ _ w' => WInv wo D wo.heap.size s11 w') (fun s11 _ _ _ _ => 64 - (Go.RowKit.intOf s11).toNat)
      case atStart => exact ⟨0, [], Nat.zero_le _, rfl, rfl, fun _ => rfl, fun h => by omega, HF5.out, HB5.out⟩
      case round =>
        obtain ⟨w6, rfl⟩ : ∃ x, x = wr := ⟨_, rfl⟩
        clear HF5 HB5 hmk
        obtain ⟨i, W, hi, rfl, hWl, hWa, hWb, hF, hb6⟩ := hrel
        have HWl := Lib.hid hWl
        have HWa := Lib.hid hWa
        have HWb := Lib.hid hWb
        have HFr := Lib.hid hF
        have HB6 := Lib.hid hb6
        clear hWl hWa hWb hF hb6
        by_cases hlt64 : i < 64
        · have hz64 : (i : Int) < 64 := by omega
          by_cases h16 : i < 16
          · have hz16 : (i : Int) < 16 := by omega
            go_wp2_with fail
            go_loopw [12] (fun s12 wq => JInv wo PB.data.toList (64 * q + 4 * i) W wo.heap.size i s12 wq) (fun s12 _ => 4 - (Go.RowKit.intOf s12).toNat)
            case atStart => exact ⟨0, Nat.zero_le _, rfl, by rw [part, set_none (filled_get (by rw [HWl.out]; exact Nat.le_refl _) hlt64)]; exact HFr.out, HB6.out⟩
            case round =>
              obtain ⟨w7, rfl⟩ : ∃ x, x = wr := ⟨_, rfl⟩
              obtain ⟨j, hj, rfl, hF, hb7⟩ := hrel
              have HF7 := Lib.hid hF
              have HB7 := Lib.hid hb7
              clear hF hb7
              by_cases hlt4 : j < 4
              · have hz4 : (j : Int) < 4 := by omega
                have hps : PB.size = 64 * N := HN.out
                obtain ⟨x, hx, lx, ix⟩ := idx_byte PB (64 * q + 4 * i + j) (by omega) (64 * (q : Int) + 4 * (i : Int) + (j : Int)) (by omega)
                obtain ⟨y, hy⟩ : ∃ y, part PB.data.toList (64 * q + 4 * i) j = y := ⟨_, rfl⟩
                have hil : i < ((filled W).set i y).length := by rw [List.length_set, filled_len (by rw [HWl.out]; omega)]; exact hlt64
                have ly : (y : Int) < 4294967296 := by have := part_lt PB.data.toList (64 * q + 4 * i) j; omega
                have hF7 := HF7.out
                rw [hy] at hF7
                have c1 := hF7.cells i y (by rw [List.getElem?_set_self (by rw [List.length_set] at hil; exact hil)])
                have f1 := hF7.free i hil
                have HF8 := Lib.hid hF7
                have HX := Lib.hid (And.intro hx hy)
                have HIL := Lib.hid hil
                clear hps hx hy hF7 hil
                go_wp2_with fail
                go_region
                all_goals (try go_wp2_with fail)
                all_goals
                  go_roundw
                  case rel =>
                    have hset := HF8.out.set i HIL.out ((y * 256 % 4294967296 + x) % 4294967296)
                    rw [List.set_set, show (((y * 256 % 4294967296 + x) % 4294967296 : Nat) : Int) = (y : Int) * 256 % 4294967296 + x by omega] at hset
                    refine ⟨j + 1, by omega, by go_num, ?_, (HB7.out.setCell (Nat.le_refl _) _).drew⟩
                    rw [part, HX.out.1, HX.out.2]
                    exact hset
                  case measure => simp [Go.RowKit.intOf]; omega
              · have hz4 : ¬ (j : Int) < 4 := by omega
                go_wp2_with fail
                have e4 : j = 4 := by omega
                subst e4
                have hF9 := HF7.out
                rw [← part_at PB.data.toList q i h16 4 (Nat.le_refl _), HD.out, part_four] at hF9
                have hfs := filled_set (W := W) (by rw [HWl.out]; exact hlt64) (wordBE D i)
                rw [HWl.out] at hfs
                rw [hfs] at hF9
                refine ⟨⟨i + 1, W ++ [wordBE D i], by omega, by go_num, by rw [List.length_append, HWl.out]; rfl, fun _ => by rw [words16_take _ _ h16, HWa.out (by omega)], fun h => ?_, hF9, HB7.out⟩, by simp [Go.RowKit.intOf]; omega⟩
                have e16 : i = 15 := by omega
                subst e16
                rw [HWa.out (by decide), ← words16_take _ _ (by decide)]
                rw [List.take_of_length_le (by rw [words16_len]; decide)]
                rfl
          · have hz16 : ¬ (i : Int) < 16 := by omega
            have hWs := HWb.out (by omega)
            have hlen : W.length = i := HWl.out
            have hall : ∀ j, j < i → W.getD j 0 < 4294967296 := fun j hj => sched_lt (i - 16) (words16 D) (words16_lt _) _ (by rw [← hWs]; exact List.mem_of_getElem? (get_some _ j (by omega)))
            obtain ⟨j2, hj2⟩ : ∃ j : Nat, (i : Int) - 2 = j := ⟨i - 2, by omega⟩
            obtain ⟨j7, hj7⟩ : ∃ j : Nat, (i : Int) - 7 = j := ⟨i - 7, by omega⟩
            obtain ⟨j15, hj15⟩ : ∃ j : Nat, (i : Int) - 15 = j := ⟨i - 15, by omega⟩
            obtain ⟨j16, hj16⟩ : ∃ j : Nat, (i : Int) - 16 = j := ⟨i - 16, by omega⟩
            obtain ⟨y2, hy2⟩ : ∃ y, W.getD j2 0 = y := ⟨_, rfl⟩
            obtain ⟨y7, hy7⟩ : ∃ y, W.getD j7 0 = y := ⟨_, rfl⟩
            obtain ⟨y15, hy15⟩ : ∃ y, W.getD j15 0 = y := ⟨_, rfl⟩
            obtain ⟨y16, hy16⟩ : ∃ y, W.getD j16 0 = y := ⟨_, rfl⟩
            have C2 := Lib.hid (filled_at ((get_some _ j2 (by omega)).trans (congrArg some hy2)))
            have C7 := Lib.hid (filled_at ((get_some _ j7 (by omega)).trans (congrArg some hy7)))
            have C15 := Lib.hid (filled_at ((get_some _ j15 (by omega)).trans (congrArg some hy15)))
            have C16 := Lib.hid (filled_at ((get_some _ j16 (by omega)).trans (congrArg some hy16)))
            have CI := Lib.hid (filled_get (W := W) (i := i) (by omega) hlt64)
            have FI : Hid (i < (filled W).length) := Lib.hid (by rw [filled_len (by omega)]; exact hlt64)
            have c2 := HFr.out.cells _ _ C2.out
            have c15 := HFr.out.cells _ _ C15.out
            have l2 : y2 < 4294967296 := by rw [← hy2]; exact hall _ (by omega)
            have l7 : y7 < 4294967296 := by rw [← hy7]; exact hall _ (by omega)
            have l15 : y15 < 4294967296 := by rw [← hy15]; exact hall _ (by omega)
            have l16 : y16 < 4294967296 := by rw [← hy16]; exact hall _ (by omega)
            have R17 : Hid (∀ W, Calls Tryd.prog 52 #[.int .u32 y2, .int .u32 17] W fun e w' => e = .returned (.int .u32 (rotr y2 17 : Nat)) ∧ W = w') := Lib.hid (fun W => rturn_any y2 17 W l2 (by decide) (by decide))
            have R19 : Hid (∀ W, Calls Tryd.prog 52 #[.int .u32 y2, .int .u32 19] W fun e w' => e = .returned (.int .u32 (rotr y2 19 : Nat)) ∧ W = w') := Lib.hid (fun W => rturn_any y2 19 W l2 (by decide) (by decide))
            have R7 : Hid (∀ W, Calls Tryd.prog 52 #[.int .u32 y15, .int .u32 7] W fun e w' => e = .returned (.int .u32 (rotr y15 7 : Nat)) ∧ W = w') := Lib.hid (fun W => rturn_any y15 7 W l15 (by decide) (by decide))
            have R18 : Hid (∀ W, Calls Tryd.prog 52 #[.int .u32 y15, .int .u32 18] W fun e w' => e = .returned (.int .u32 (rotr y15 18 : Nat)) ∧ W = w') := Lib.hid (fun W => rturn_any y15 18 W l15 (by decide) (by decide))
            obtain ⟨n1, hn1, hn1l, x1, x1'⟩ := near_xor y2 l2
            obtain ⟨n0, hn0, hn0l, x0, x0'⟩ := far_xor y15 l15
            have HNx : Hid (nextW W = (y16 + y7 + n0 + n1) % 4294967296) := Lib.hid (by
              unfold nextW
              rw [hlen, show i - 16 = j16 by omega, show i - 7 = j7 by omega, show i - 15 = j15 by omega, show i - 2 = j2 by omega]
              rw [hy16, hy7, hy15, hy2, hn0, hn1])
            have l2z : (y2 : Int) < 4294967296 := by omega
            have l7z : (y7 : Int) < 4294967296 := by omega
            have l15z : (y15 : Int) < 4294967296 := by omega
            have l16z : (y16 : Int) < 4294967296 := by omega
            have q2 : (j2 : Int) < 64 := by omega
            have q7 : (j7 : Int) < 64 := by omega
            have q15 : (j15 : Int) < 64 := by omega
            have q16 : (j16 : Int) < 64 := by omega
            have HWs := Lib.hid hWs
            clear hWs hlen hall hy2 hy7 hy15 hy16 l2 l7 l15 l16 hn1 hn0
            go_wp2_with fail
            go_quiet (fail)
            have HFr8 := Lib.hid (HFr.out.drewN nq)
            have HB8 : Hid (Below wo.heap.size wo (w6.drewN nq)) := Lib.hid ⟨HB6.out.os, HB6.out.tape, HB6.out.output, HB6.out.size, HB6.out.block⟩
            clear c2 c15 HFr HB6
            generalize w6.drewN nq = w8 at HFr8 HB8 ⊢
            have c7 := HFr8.out.cells _ _ C7.out
            have c16 := HFr8.out.cells _ _ C16.out
            have ci := HFr8.out.cells _ _ CI.out
            have fi := HFr8.out.free i FI.out
            obtain ⟨T1, hT1, hT1l⟩ : ∃ T : Nat, T = (y16 + y7) % 4294967296 ∧ (T : Int) < 4294967296 := ⟨_, rfl, by omega⟩
            obtain ⟨T2, hT2, hT2l⟩ : ∃ T : Nat, T = (T1 + n0) % 4294967296 ∧ (T : Int) < 4294967296 := ⟨_, rfl, by omega⟩
            obtain ⟨T3, hT3, hT3l⟩ : ∃ T : Nat, T = (T2 + n1) % 4294967296 ∧ (T : Int) < 4294967296 := ⟨_, rfl, by omega⟩
            have e1 : ((y16 : Int) + y7) % 4294967296 = T1 := by omega
            have e2 : ((T1 : Int) + n0) % 4294967296 = T2 := by omega
            have e3 : ((T2 : Int) + n1) % 4294967296 = T3 := by omega
            have e1r : IntKind.u32.wrap ((y16 : Int) + y7) = T1 := by rw [← e1]; rfl
            have e2r : IntKind.u32.wrap ((T1 : Int) + n0) = T2 := by rw [← e2]; rfl
            have e3r : IntKind.u32.wrap ((T2 : Int) + n1) = T3 := by rw [← e3]; rfl
            have HT : Hid (T3 = nextW W) := Lib.hid (by rw [HNx.out]; omega)
            clear hT1 hT2 hT3
            go_wp2_with fail
            have r16 : IntKind.i64.wrap ((i : Int) - 16) = (j16 : Int) := by rw [hj16]; exact wrap_small _ (by omega)
            have r7 : IntKind.i64.wrap ((i : Int) - 7) = (j7 : Int) := by rw [hj7]; exact wrap_small _ (by omega)
            have s16 : IntKind.i64.wrap (j16 : Int) = (j16 : Int) := wrap_small _ (by omega)
            have s7 : IntKind.i64.wrap (j7 : Int) = (j7 : Int) := wrap_small _ (by omega)
            have p16 : (0 : Int) ≤ (j16 : Int) := by omega
            have p7 : (0 : Int) ≤ (j7 : Int) := by omega
            have n7 : ∀ v, (w8.setCell ⟨wo.heap.size, i, none⟩ v).cell? ⟨wo.heap.size, j7, none⟩ = some (.int .u32 (y7 : Nat)) := fun v => (World.cell?_setCell_other _ _ _ _ (by intro e; cases e; omega)).trans c7
            have n16 : ∀ v, (w8.setCell ⟨wo.heap.size, i, none⟩ v).cell? ⟨wo.heap.size, j16, none⟩ = some (.int .u32 (y16 : Nat)) := fun v => (World.cell?_setCell_other _ _ _ _ (by intro e; cases e; omega)).trans c16
            go_region_held3 (fun w' => w'.cell? ⟨wo.heap.size, j7, none⟩ = some (.int .u32 (y7 : Nat)) ∧ w'.cell? ⟨wo.heap.size, j16, none⟩ = some (.int .u32 (y16 : Nat))) (first | exact ⟨c7, c16⟩ | exact ⟨n7 _, n16 _⟩) (first | (go_at_call_of 52 (Value.int IntKind.u32 7); refine (R7.out _).mono ?_; rintro e w' ⟨rfl, rfl⟩) | (go_at_call_of 52 (Value.int IntKind.u32 18); refine (R18.out _).mono ?_; rintro e w' ⟨rfl, rfl⟩) | (go_at_call_of 52 (Value.int IntKind.u32 17); refine (R17.out _).mono ?_; rintro e w' ⟨rfl, rfl⟩) | (go_at_call_of 52 (Value.int IntKind.u32 19); refine (R19.out _).mono ?_; rintro e w' ⟨rfl, rfl⟩))
            all_goals (try go_wp2_with fail)
            all_goals
              go_roundw
              case rel =>
                have hset := HFr8.out.set i FI.out T3
                have hfs := filled_set (W := W) (by rw [HWl.out]; exact hlt64) (nextW W)
                rw [HWl.out] at hfs
                refine ⟨i + 1, W ++ [nextW W], by omega, by go_num, by rw [List.length_append, HWl.out]; rfl, fun h => by omega, fun _ => ?_, ?_, (HB8.out.setCell (Nat.le_refl _) _).drew⟩
                · rw [HWs.out, ← sched_end, show i - 16 + 1 = i + 1 - 16 by omega]
                · rw [← hfs, ← HT.out]
                  exact hset
              case measure => simp [Go.RowKit.intOf]; omega
        · have hz64 : ¬ (i : Int) < 64 := by omega
          have e64 : i = 64 := by omega
          subst e64
          obtain ⟨st, hst⟩ : ∃ st, stateAt PB.data.toList q = st := ⟨_, rfl⟩
          have hws := state_words PB.data.toList q
          have hup := state_up PB.data.toList q (by rw [← Lib.size_eq, HN.out]; omega)
          have hsl := HSl.out.below HB6.out
          have hW : W = schedGo 48 (words16 D) := HWb.out (by decide)
          have hlW : W.length = 64 := HWl.out
          have hFs := HFr.out.sl
          have hBw : Below w.heap.size w w6 := Below.trans HB.out (HB6.out.mono HB.out.size)
          rw [filled_full hlW, hlW] at hFs
          rw [HD.out, hst] at hup
          rw [hst] at hws hsl
          unfold blockN at hup
          rw [← hW] at hup
          obtain ⟨a, b, c, d, e, f, g, h⟩ := st
          have cB := rblock_any a b c d e f g h _ _ _ W roundK w6 hsl hFs (HK.out.below hBw) hlW (by decide) hws (by rw [hW]; exact sched_lt _ _ (words16_lt _)) (by decide)
          rw [← hup] at cB
          have CB := Lib.hid cB
          have HBw := Lib.hid hBw
          clear cB hst hws hup hsl hW hlW hFs hBw
          go_wp2_with (go_at_call 53; refine CB.out.mono ?_; rintro r w9 ⟨v9, rfl, hs9, hb9⟩; have HS9 := Lib.hid hs9; have HB9 := Lib.hid hb9; clear hs9 hb9)
          go_roundw
          case rel => exact ⟨q + 1, by omega, by first | go_num | (congr 1; omega), HS9.out, Below.trans HBw.out (HB9.out.mono HBw.out.size)⟩
          case measure => simp [Go.RowKit.intOf]; omega
    · have hz : ¬ (64 * (q : Int)) < PB.size := by omega
      have eq : q = N := by omega
      subst eq
      clear hPs
      obtain ⟨g7, c7, rfl, hg7, hc7⟩ := HSl.out
      obtain ⟨xs, hxs⟩ : ∃ xs, stL (stateAt PB.data.toList q) = xs := ⟨_, rfl⟩
      have HFin := HF.out
      have hwx := state_words PB.data.toList q
      unfold Words at hwx
      rw [hxs] at HFin hc7 hwx ⊢
      have hxl : xs.length = 8 := by rw [← hxs]; rfl
      rw [hxl]
      have HFn := Lib.hid HFin
      have HC7 := Lib.hid hc7
      have HWx := Lib.hid hwx
      have HXl := Lib.hid hxl
      clear HFin hc7 hwx hxs hxl HF HSl
      go_wp2_with fail
      go_loopw [15, 16, 17] (fun s15 s16 _ wr => ∃ k : Nat, k ≤ 8 ∧ s16 = .int .i64 k ∧ Own8 wr wo.heap.size s15 ((xs.take k).flatMap be4) ∧ Below wo.heap.size wo wr) (fun _ s16 _ _ => 8 - (Go.RowKit.intOf s16).toNat)
      case atStart => exact ⟨0, Nat.zero_le _, rfl, Own8.nil _ _, Below.refl _ _⟩
      case round =>
        obtain ⟨wi, rfl⟩ : ∃ x, x = wr := ⟨_, rfl⟩
        obtain ⟨k, hk8, rfl, ho, hb⟩ := hrel
        have HO := Lib.hid ho
        have HB2 := Lib.hid hb
        clear ho hb
        by_cases hlt8 : k < 8
        · have hz8 : (k : Int) < 8 := by omega
          obtain ⟨x, hx1⟩ : ∃ x, xs[k]? = some x := ⟨xs[k]'(by rw [HXl.out]; exact hlt8), List.getElem?_eq_getElem _⟩
          have HTk : Hid ((xs.take (k + 1)).flatMap be4 = (xs.take k).flatMap be4 ++ be4 x) := Lib.hid (by rw [List.take_add_one, hx1, List.flatMap_append]; simp)
          have HXk := Lib.hid (HC7.out k x hx1)
          have hxz : (x : Int) < 4294967296 := by have := HWx.out x (List.mem_of_getElem? hx1); omega
          clear hx1
          go_wp2_with fail
          go_loopw [15, 17] (fun s15 s17 wr => ∃ m : Nat, m ≤ 4 ∧ s17 = .int .i64 (3 - (m : Int)) ∧ Own8 wr wo.heap.size s15 ((xs.take k).flatMap be4 ++ (be4 x).take m) ∧ Below wo.heap.size wo wr) (fun _ s17 _ => (Go.RowKit.intOf s17 + 1).toNat)
          case atStart => exact ⟨0, by omega, rfl, by rw [List.take_zero, List.append_nil]; exact HO.out, HB2.out⟩
          case round =>
            obtain ⟨wj, rfl⟩ : ∃ x, x = wr := ⟨_, rfl⟩
            clear HO HB2
            obtain ⟨m, hm, rfl, ho, hb⟩ := hrel
            obtain ⟨ao2, cap2, hv⟩ := ho.shape
            have hll : ((xs.take k).flatMap be4 ++ (be4 x).take m).length = 4 * k + m := by rw [List.length_append, len_be4, List.length_take, List.length_take, HXl.out, be4_len]; omega
            rw [hll] at hv
            subst hv
            have HO := Lib.hid ho
            have HB2 := Lib.hid hb
            have HLL := Lib.hid hll
            have hs2 := hb.size
            have cx : wj.cell? ⟨g7, k, none⟩ = some (.int .u32 (x : Nat)) := (hb.cell (p := ⟨g7, k, none⟩) hg7).trans HXk.out
            clear ho hb hll
            by_cases hlt4 : m < 4
            · obtain ⟨b, hb⟩ : ∃ b, UInt8.ofNat (x / 2 ^ (8 * (3 - m)) % 256) = b := ⟨_, rfl⟩
              have HBt : Hid ((be4 x).take (m + 1) = (be4 x).take m ++ [b]) := Lib.hid (by rw [be4_take _ _ hlt4, hb])
              have HBy : Hid (b.toNat = x / 2 ^ (8 * (3 - m)) % 256) := Lib.hid (by rw [← hb, byte_of' (Nat.mod_lt _ (by decide))])
              clear hb
              have hm4 : m = 0 ∨ m = 1 ∨ m = 2 ∨ m = 3 := by omega
              rcases hm4 with rfl | rfl | rfl | rfl
              all_goals go_wp2_with (first | (at_builtin; refine wpList_app8 rfl _ _ rfl wo.heap.size _ _ rfl (HO.out.alloc _) (by simp; omega) ⟨wj.heap.size, 0, none⟩ 1 1 [b] rfl rfl (one_byte _ _ _ _ (by have h := HBy.out; simp at h; omega)) (by rw [HLL.out]; omega) ?_; intro v4 w4 ho3 hb3; have HO3 := Lib.hid ho3; have HB3 := Lib.hid (Below.trans (HB2.out.alloc hs2 _) hb3); clear ho3 hb3))
              all_goals
                go_roundw
                case rel =>
                  have h := HO3.out
                  rw [List.append_assoc, ← HBt.out] at h
                  exact ⟨_, by omega, by go_num, h, HB3.out⟩
                case measure => simp [Go.RowKit.intOf]
            · have hz4 : ¬ (m : Int) ≤ 3 := by omega
              have hzb : decide ((m : Int) ≤ 3) = false := by simpa using hz4
              have e4 : m = 4 := by omega
              go_wp2_with fail
              have ho := HO.out
              have e9 : (be4 x).take m = be4 x := List.take_of_length_le (by rw [be4_len, e4]; exact Nat.le_refl _)
              rw [e9, ← HTk.out] at ho
              exact ⟨⟨k + 1, by omega, by go_num, ho, HB2.out⟩, by simp [Go.RowKit.intOf]; omega⟩
        · have hz8 : ¬ (k : Int) < 8 := by omega
          have hcv := own_text HO.out
          rw [List.take_of_length_le (by rw [HXl.out]; omega), ← HFn.out] at hcv
          go_wp2_with fail
          go_ret
          exact ⟨rfl, Below.trans HB.out (HB2.out.mono HB.out.size)⟩
end HX
end Go.Proofs.YtmpmmebmhffaeaaDoor
