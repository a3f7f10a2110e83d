/- Layer 3: the walk of the statement CodeBack: it answers true, for every list of numbers, of texts and of flags whose bytes together are as many as a length can tell. -/
import Derived.Test.YtmcofccmbbjkjaaCodeLists
namespace Go.Proofs.Ytmcofccmbbjkjaa
open Go.RowKit Go.Lib
namespace CB
open CP CR CQ

set_option maxRecDepth 100000 in
set_option maxHeartbeats 6400000 in
theorem back_law (a0 a1 a2 : Option Addr) (c0 c1 c2 : Nat) (ns : List Int) (ts : List ByteArray) (bs : List Bool) (w : World) (h0 : IntsAt w a0 ns) (h1 : StrsAt w a1 ts) (h2 : BoolsAt w a2 bs)
    (hn : ∀ n ∈ ns, n < 2 ^ 63) (hlen : (numsS ns).length + (textsS ts).length + (flagsS bs).length ≤ maxLen) (l0 : ns.length ≤ maxLen) (l1 : ts.length ≤ maxLen) (l2 : bs.length ≤ maxLen) :
    Calls Try.prog 4 #[.slice a0 ns.length c0, .slice a1 ts.length c1, .slice a2 bs.length c2] w (Yes w) := by
  have cAw := awake_any w
  have H0 := Lib.hid h0
  have H1 := Lib.hid h1
  have H2 := Lib.hid h2
  have HN := Lib.hid hn
  have HL := Lib.hid hlen
  unfold maxLen at l0 l1 l2
  clear h0 h1 h2 hn hlen
  go_enter Try.func4, Try.ntmps4
  go_wp2_with fail
  refine cAw.mono ?_
  rintro e w1 ⟨rfl, hb1⟩
  have HB1 := Lib.hid hb1
  clear hb1 cAw
  go_wp2
  go_loopw [7, 25] (fun s7 s25 wr => ∃ (k : Nat) (t : ByteArray), k ≤ ns.length ∧ s25 = .int .i64 k ∧ s7 = .string t ∧ t.data.toList = numsS (ns.take k) ∧ Below w.heap.size w wr) (fun _ s25 _ => ns.length - (Go.RowKit.intOf s25).toNat)
  case atStart => exact ⟨0, ByteArray.empty, Nat.zero_le _, rfl, rfl, rfl, HB1.out⟩
  case round =>
    obtain ⟨k, t, hk, rfl, rfl, ht, hb⟩ := hrel
    have HT := Lib.hid ht
    have HB := Lib.hid hb
    clear ht hb
    by_cases hlt : k < ns.length
    · obtain ⟨n, hc⟩ : ∃ n, ns[k]? = some n := ⟨ns[k], List.getElem?_eq_getElem hlt⟩
      obtain ⟨g, o, rfl, hg, hcc⟩ := H0.out (by omega)
      have hz : (k : Int) < ns.length := by omega
      have hcell : wr.cell? ⟨g, o + k, none⟩ = some (Value.int .i64 n) := by rw [HB.out.cell (p := ⟨g, o + k, none⟩) hg]; exact hcc k n hc
      have cN := num_any n wr (HN.out n (List.mem_of_getElem? hc))
      have HK := Lib.hid (nums_take hc)
      have hle := nums_le ns (k + 1)
      clear hcc hc
      go_wp2_with fail
      refine cN.mono ?_
      rintro e w2 ⟨v, rfl, hv, hb2⟩
      have HB2 := Lib.hid (HB.out.trans (hb2.mono HB.out.size))
      have HT2 : Hid ((t ++ v).data.toList = numsS (ns.take (k + 1))) := Lib.hid (by rw [cat_data, HT.out, hv, HK.out] <;> simp only [List.append_assoc])
      have hsz : t.size + v.size ≤ 9223372036854775807 := by
        have e1 := congrArg List.length HT2.out
        rw [← Lib.size_eq, ByteArray.size_append] at e1
        try simp only [List.length_append] at e1
        have := HL.out
        unfold maxLen at this
        omega
      clear hv hb2 cN hle
      go_wp2
      go_roundw
      case rel => exact ⟨k + 1, t ++ v, by omega, by go_num, rfl, HT2.out, HB2.out⟩
      case measure => simp [Go.RowKit.intOf]; omega
    · have hz : ¬ (k : Int) < ns.length := by omega
      rw [List.take_of_length_le (by omega)] at HT
      go_wp2
      go_loopw [7, 36] (fun s7 s36 wr => ∃ (k : Nat) (t : ByteArray), k ≤ ts.length ∧ s36 = .int .i64 k ∧ s7 = .string t ∧ t.data.toList = numsS ns ++ textsS (ts.take k) ∧ Below w.heap.size w wr) (fun _ s36 _ => ts.length - (Go.RowKit.intOf s36).toNat)
      case atStart => exact ⟨0, t, Nat.zero_le _, rfl, rfl, by rw [HT.out]; simp [textsS], HB.out⟩
      case round =>
        obtain ⟨k, t, hk, rfl, rfl, ht, hb⟩ := hrel
        have HT := Lib.hid ht
        have HB := Lib.hid hb
        clear ht hb
        by_cases hlt : k < ts.length
        · obtain ⟨n, hc⟩ : ∃ n, ts[k]? = some n := ⟨ts[k], List.getElem?_eq_getElem hlt⟩
          obtain ⟨g, o, rfl, hg, hcc⟩ := H1.out (by omega)
          have hz : (k : Int) < ts.length := by omega
          have hcell : wr.cell? ⟨g, o + k, none⟩ = some (Value.string n) := by rw [HB.out.cell (p := ⟨g, o + k, none⟩) hg]; exact hcc k n hc
          have htsz : (nm n.size).length + n.size ≤ maxLen := by
            have e1 := texts_le ts (k + 1)
            rw [texts_take hc, List.length_append] at e1
            unfold textS at e1
            rw [List.length_append, ← Lib.size_eq] at e1
            have := HL.out
            omega
          have cN := text_wr n wr htsz
          have HK := Lib.hid (texts_take hc)
          have hle := texts_le ts (k + 1)
          clear hcc hc
          go_wp2_with fail
          refine cN.mono ?_
          rintro e w2 ⟨v, rfl, hv, hb2⟩
          have HB2 := Lib.hid (HB.out.trans (hb2.mono HB.out.size))
          have HT2 : Hid ((t ++ v).data.toList = numsS ns ++ textsS (ts.take (k + 1))) := Lib.hid (by rw [cat_data, HT.out, hv, HK.out] <;> simp only [List.append_assoc])
          have hsz : t.size + v.size ≤ 9223372036854775807 := by
            have e1 := congrArg List.length HT2.out
            rw [← Lib.size_eq, ByteArray.size_append] at e1
            try simp only [List.length_append] at e1
            have := HL.out
            unfold maxLen at this
            omega
          clear hv hb2 cN hle
          go_wp2
          go_roundw
          case rel => exact ⟨k + 1, t ++ v, by omega, by go_num, rfl, HT2.out, HB2.out⟩
          case measure => simp [Go.RowKit.intOf]; omega
        · have hz : ¬ (k : Int) < ts.length := by omega
          rw [List.take_of_length_le (by omega)] at HT
          go_wp2
          go_loopw [7, 47] (fun s7 s47 wr => ∃ (k : Nat) (t : ByteArray), k ≤ bs.length ∧ s47 = .int .i64 k ∧ s7 = .string t ∧ t.data.toList = numsS ns ++ textsS ts ++ flagsS (bs.take k) ∧ Below w.heap.size w wr) (fun _ s47 _ => bs.length - (Go.RowKit.intOf s47).toNat)
          case atStart => exact ⟨0, t, Nat.zero_le _, rfl, rfl, by rw [HT.out]; simp [flagsS], HB.out⟩
          case round =>
            obtain ⟨k, t, hk, rfl, rfl, ht, hb⟩ := hrel
            have HT := Lib.hid ht
            have HB := Lib.hid hb
            clear ht hb
            by_cases hlt : k < bs.length
            · obtain ⟨n, hc⟩ : ∃ n, bs[k]? = some n := ⟨bs[k], List.getElem?_eq_getElem hlt⟩
              obtain ⟨g, o, rfl, hg, hcc⟩ := H2.out (by omega)
              have hz : (k : Int) < bs.length := by omega
              have hcell : wr.cell? ⟨g, o + k, none⟩ = some (Value.bool n) := by rw [HB.out.cell (p := ⟨g, o + k, none⟩) hg]; exact hcc k n hc
              have cN := wflag_post n wr
              have HK := Lib.hid (flags_take hc)
              have hle := flags_le bs (k + 1)
              clear hcc hc
              go_wp2_with fail
              refine cN.mono ?_
              rintro e w2 ⟨v, rfl, hv, hb2⟩
              have HB2 := Lib.hid (HB.out.trans (hb2.mono HB.out.size))
              have HT2 : Hid ((t ++ v).data.toList = numsS ns ++ textsS ts ++ flagsS (bs.take (k + 1))) := Lib.hid (by rw [cat_data, HT.out, hv, HK.out] <;> simp only [List.append_assoc])
              have hsz : t.size + v.size ≤ 9223372036854775807 := by
                have e1 := congrArg List.length HT2.out
                rw [← Lib.size_eq, ByteArray.size_append] at e1
                try simp only [List.length_append] at e1
                have := HL.out
                unfold maxLen at this
                omega
              clear hv hb2 cN hle
              go_wp2
              go_roundw
              case rel => exact ⟨k + 1, t ++ v, by omega, by go_num, rfl, HT2.out, HB2.out⟩
              case measure => simp [Go.RowKit.intOf]; omega
            · have hz : ¬ (k : Int) < bs.length := by omega
              rw [List.take_of_length_le (by omega)] at HT
              go_wp2_with fail
              refine (new_any t wr).mono ?_
              rintro e w2 ⟨rfl, hr2, hb2⟩
              have hbk : w.heap.size ≤ wr.heap.size := HB.out.size
              have HR0 := Lib.hid hr2
              have HB0 := Lib.hid (HB.out.trans (hb2.mono hbk))
              clear hr2 hb2
              generalize hbe : wr.heap.size = bk at *
              clear hbe
              go_wp2
              go_loopw [60] (fun s60 wr => ∃ (k : Nat) (l : ByteArray), k ≤ ns.length ∧ s60 = .int .i64 k ∧ l.data.toList = numsS (ns.drop k) ++ textsS ts ++ flagsS bs ∧ RdAt bk l 0 wr ∧ Below w.heap.size w wr) (fun s60 _ => ns.length - (Go.RowKit.intOf s60).toNat)
              case atStart => exact ⟨0, t, Nat.zero_le _, rfl, by rw [HT.out]; rfl, HR0.out, HB0.out⟩
              case round =>
                obtain ⟨k, l, hk, rfl, hl, hr, hb⟩ := hrel
                have HLL := Lib.hid hl
                have HR := Lib.hid hr
                have HB := Lib.hid hb
                clear hl hr hb
                by_cases hlt : k < ns.length
                · obtain ⟨n, hc⟩ : ∃ n, ns[k]? = some n := ⟨ns[k], List.getElem?_eq_getElem hlt⟩
                  obtain ⟨g, o, rfl, hg, hcc⟩ := H0.out (by omega)
                  have hz : (k : Int) < ns.length := by omega
                  have hcell : wr.cell? ⟨g, o + k, none⟩ = some (Value.int .i64 n) := by rw [HB.out.cell (p := ⟨g, o + k, none⟩) hg]; exact hcc k n hc
                  have hls : l.size ≤ maxLen := by
                    have e1 := congrArg List.length HLL.out
                    rw [← Lib.size_eq] at e1
                    try simp only [List.length_append] at e1
                    have := HL.out
                    have := drop_le_n ns k
                    omega
                  by_cases hneg : n < 0
                  · have HD := Lib.hid (show l.data.toList = numsS (ns.drop (k + 1)) ++ textsS ts ++ flagsS bs by
                      rw [HLL.out, nums_drop hc]
                      unfold numS
                      rw [if_pos hneg]
                      rfl)
                    clear hcc hc
                    go_wp2
                    go_roundw
                    case rel => exact ⟨k + 1, l, by omega, by go_num, HD.out, HR.out, HB.out⟩
                    case measure => simp [Go.RowKit.intOf]; omega
                  · obtain ⟨m, rfl⟩ := nat_i64 (n := n) (by omega)
                    have hm63 : m < 2 ^ 63 := by have := HN.out _ (List.mem_of_getElem? hc); omega
                    have HD := Lib.hid (show l.data.toList = nm m ++ (numsS (ns.drop (k + 1)) ++ textsS ts ++ flagsS bs) by
                      rw [HLL.out, nums_drop hc]
                      unfold numS
                      rw [if_neg hneg]
                      simp only [Int.toNat_natCast, List.append_assoc])
                    have cF := num_ok bk l wr _ _ HR.out hls (by rw [HD.out]; exact rd_head hm63)
                    rw [HD.out, List.drop_left] at cF
                    clear hcc hc
                    go_wp2_with fail
                    refine cF.mono ?_
                    rintro e w2 ⟨rfl, l2, hl2, hr2, hb2⟩
                    have HB2 := Lib.hid (HB.out.trans (hb2.mono hbk))
                    have HR2 := Lib.hid hr2
                    have HL2 := Lib.hid hl2
                    clear hb2 hr2 hl2 cF
                    go_wp2
                    go_roundw
                    case rel => exact ⟨k + 1, l2, by omega, by go_num, HL2.out, HR2.out, HB2.out⟩
                    case measure => simp [Go.RowKit.intOf]; omega
                · have hz : ¬ (k : Int) < ns.length := by omega
                  rw [List.drop_of_length_le (by omega)] at HLL
                  go_wp2
                  go_loopw [75] (fun s75 wr => ∃ (k : Nat) (l : ByteArray), k ≤ ts.length ∧ s75 = .int .i64 k ∧ l.data.toList = textsS (ts.drop k) ++ flagsS bs ∧ RdAt bk l 0 wr ∧ Below w.heap.size w wr) (fun s75 _ => ts.length - (Go.RowKit.intOf s75).toNat)
                  case atStart => exact ⟨0, l, Nat.zero_le _, rfl, by rw [HLL.out]; simp [numsS], HR.out, HB.out⟩
                  case round =>
                    obtain ⟨k, l, hk, rfl, hl, hr, hb⟩ := hrel
                    have HLL := Lib.hid hl
                    have HR := Lib.hid hr
                    have HB := Lib.hid hb
                    clear hl hr hb
                    by_cases hlt : k < ts.length
                    · obtain ⟨n, hc⟩ : ∃ n, ts[k]? = some n := ⟨ts[k], List.getElem?_eq_getElem hlt⟩
                      obtain ⟨g, o, rfl, hg, hcc⟩ := H1.out (by omega)
                      have hz : (k : Int) < ts.length := by omega
                      have hcell : wr.cell? ⟨g, o + k, none⟩ = some (Value.string n) := by rw [HB.out.cell (p := ⟨g, o + k, none⟩) hg]; exact hcc k n hc
                      have hls : l.size ≤ maxLen := by
                        have e1 := congrArg List.length HLL.out
                        rw [← Lib.size_eq] at e1
                        try simp only [List.length_append] at e1
                        have := HL.out
                        have := drop_le_t ts k
                        omega
                      have hn63 : n.data.toList.length < 2 ^ 63 := by
                        have e1 := drop_le_t ts k
                        rw [texts_drop hc, List.length_append] at e1
                        unfold textS at e1
                        rw [List.length_append] at e1
                        have := HL.out
                        unfold maxLen at this
                        omega
                      have HD := Lib.hid (show l.data.toList = textS n.data.toList ++ (textsS (ts.drop (k + 1)) ++ flagsS bs) by rw [HLL.out, texts_drop hc, List.append_assoc])
                      have hcnt : cnt l.data.toList (n.size : Int) 1 = (n.data.toList.length, (nm n.data.toList.length).length, 0) := by rw [HD.out, Lib.size_eq]; exact cnt_head hn63
                      have cF := text_ok bk l n.size wr _ _ HR.out hls hcnt
                      rw [HD.out, text_mid, text_end] at cF
                      have hnsz : (n.size : Int) ≤ 9223372036854775807 := by rw [Lib.size_eq]; omega
                      clear hcc hc hn63 hcnt
                      go_wp2_with fail
                      refine cF.mono ?_
                      rintro e w2 ⟨u, hu, rfl, l2, hl2, hr2, hb2⟩
                      have hue : (u.toList == n.toList) = true := by rw [Lib.toList_data, hu, Lib.toList_data]; simp
                      have HB2 := Lib.hid (HB.out.trans (hb2.mono hbk))
                      have HR2 := Lib.hid hr2
                      have HL2 := Lib.hid hl2
                      clear hb2 hr2 hl2 hu cF
                      go_wp2
                      go_roundw
                      case rel => exact ⟨k + 1, l2, by omega, by go_num, HL2.out, HR2.out, HB2.out⟩
                      case measure => simp [Go.RowKit.intOf]; omega
                    · have hz : ¬ (k : Int) < ts.length := by omega
                      rw [List.drop_of_length_le (by omega)] at HLL
                      go_wp2
                      go_loopw [88] (fun s88 wr => ∃ (k : Nat) (l : ByteArray), k ≤ bs.length ∧ s88 = .int .i64 k ∧ l.data.toList = flagsS (bs.drop k) ∧ RdAt bk l 0 wr ∧ Below w.heap.size w wr) (fun s88 _ => bs.length - (Go.RowKit.intOf s88).toNat)
                      case atStart => exact ⟨0, l, Nat.zero_le _, rfl, by rw [HLL.out]; simp [textsS], HR.out, HB.out⟩
                      case round =>
                        obtain ⟨k, l, hk, rfl, hl, hr, hb⟩ := hrel
                        have HLL := Lib.hid hl
                        have HR := Lib.hid hr
                        have HB := Lib.hid hb
                        clear hl hr hb
                        by_cases hlt : k < bs.length
                        · obtain ⟨n, hc⟩ : ∃ n, bs[k]? = some n := ⟨bs[k], List.getElem?_eq_getElem hlt⟩
                          obtain ⟨g, o, rfl, hg, hcc⟩ := H2.out (by omega)
                          have hz : (k : Int) < bs.length := by omega
                          have hcell : wr.cell? ⟨g, o + k, none⟩ = some (Value.bool n) := by rw [HB.out.cell (p := ⟨g, o + k, none⟩) hg]; exact hcc k n hc
                          have hls : l.size ≤ maxLen := by
                            have e1 := congrArg List.length HLL.out
                            rw [← Lib.size_eq] at e1
                            try simp only [List.length_append] at e1
                            have := HL.out
                            have := drop_le_f bs k
                            omega
                          have HD := Lib.hid (show l.data.toList = flagS n ++ flagsS (bs.drop (k + 1)) by rw [HLL.out, flags_drop hc])
                          have cF := flag_ok bk l n _ wr HR.out hls HD.out
                          clear hcc hc
                          go_wp2_with fail
                          refine cF.mono ?_
                          rintro e w2 ⟨rfl, l2, hl2, hr2, hb2⟩
                          have HB2 := Lib.hid (HB.out.trans (hb2.mono hbk))
                          have HR2 := Lib.hid hr2
                          have HL2 := Lib.hid hl2
                          clear hb2 hr2 hl2 cF
                          cases n
                          all_goals
                            go_wp2
                            go_roundw
                            case rel => exact ⟨k + 1, l2, by omega, by go_num, HL2.out, HR2.out, HB2.out⟩
                            case measure => simp [Go.RowKit.intOf]; omega
                        · have hz : ¬ (k : Int) < bs.length := by omega
                          rw [List.drop_of_length_le (by omega)] at HLL
                          have hl0 : l.data.toList = [] := by rw [HLL.out]; rfl
                          have hz0 : l.size = 0 := by rw [Lib.size_eq, hl0]; rfl
                          have cE := end_any bk l 0 wr HR.out (by unfold maxLen; omega)
                          rw [if_neg (by simp), if_pos hl0] at cE
                          have cL := rleft_any bk l 0 wr HR.out (by unfold maxLen; omega)
                          rw [hz0] at cL
                          clear hl0 hz0
                          go_wp2_with fail
                          refine cE.mono ?_
                          rintro e w6 ⟨rfl, rfl⟩
                          go_wp2_with fail
                          refine cL.mono ?_
                          rintro e w6 ⟨rfl, rfl⟩
                          go_wp2
                          go_ret
                          exact ⟨rfl, HB.out⟩
end CB
end Go.Proofs.Ytmcofccmbbjkjaa
