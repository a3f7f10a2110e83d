/- Layer 3: the walk of the statement CodeShort: it answers true, for every list of numbers and of texts whose bytes together are as many as a length can tell, and every place to cut at. -/
import Derived.Test.YtmcofccmbbjkjaaCodeLists
namespace Go.Proofs.Ytmcofccmbbjkjaa
open Go.RowKit Go.Lib
namespace CS
open CP CR CQ

theorem num_pos {m : Nat} : numS (m : Int) = nm m := by
  unfold numS
  rw [if_neg (by omega)]
  rfl
theorem num_none {n : Int} (h : n < 0) : numS n = [] := by
  unfold numS
  rw [if_pos h]
theorem rd_short {m k : Nat} {r : List UInt8} (h : m < 2 ^ 63) (hk : k < (nm m).length) : rd 0 0 ((nm m ++ r).take k) = (0, 0, 30) := by
  have e9 : (128 : Nat) ^ (9 - 0) = 2 ^ 63 := by decide
  rw [List.take_append_of_le_length (by omega)]
  exact rd_cut (by decide) (by omega) hk
theorem cnt_short1 {t r : List UInt8} {k : Nat} (h : t.length < 2 ^ 63) (hk : k < (textS t).length) : cnt ((textS t ++ r).take k) (t.length : Int) 1 = (0, 0, 30) := by
  have e : (textS t).length = (nm t.length).length + t.length := by unfold textS; rw [List.length_append]
  by_cases h1 : k < (nm t.length).length
  · have h2 : rd 0 0 ((textS t ++ r).take k) = (0, 0, 30) := by
      unfold textS
      rw [List.append_assoc]
      exact rd_short h h1
    exact cnt_err h2 (by decide)
  · have h2 : rd 0 0 ((textS t ++ r).take k) = (t.length, (nm t.length).length, 0) := by
      have e2 : (textS t ++ r).take k = nm t.length ++ (t ++ r).take (k - (nm t.length).length) := by
        unfold textS
        rw [List.append_assoc, List.take_append]
        rw [List.take_of_length_le (by omega)]
      rw [e2]
      exact rd_head h
    refine cnt_short h2 (by omega) ?_
    rw [show max (1 : Int) 1 = 1 from rfl, Int.ediv_one, List.length_take, List.length_append]
    omega
theorem take_over {a r : List UInt8} {k : Nat} (h : a.length ≤ k) : (a ++ r).take k = a ++ r.take (k - a.length) := by
  rw [List.take_append, List.take_of_length_le h]
/-- Where the reader stands while the numbers and texts X are still to be read: without a fault ahead of X cut short, or with the fault ErrShort. -/
def Short (bk : Nat) (X : List UInt8) (wr : World) : Prop :=
  (∃ (l : ByteArray) (k : Nat), l.data.toList = X.take k ∧ k < X.length ∧ l.size ≤ maxLen ∧ RdAt bk l 0 wr) ∨ (∃ l : ByteArray, l.size ≤ maxLen ∧ RdAt bk l 30 wr)
theorem end_30 (bk : Nat) (s : ByteArray) (w : World) (h : RdAt bk s 30 w) (hs : s.size ≤ maxLen) :
    Calls Try.prog 19 #[ptr bk] w fun e w' => e = .returned (.int .i64 30) ∧ w = w' := by
  have cE := end_any bk s 30 w h hs
  rw [if_pos (by decide)] at cE
  exact cE
theorem same_size {s l : ByteArray} (h : s.data.toList = l.data.toList) : s.size = l.size := by rw [Lib.size_eq, h, ← Lib.size_eq]
theorem drop_size {s l : ByteArray} {k : Nat} (h : s.data.toList = l.data.toList.drop k) : s.size ≤ l.size := by
  rw [Lib.size_eq, h, List.length_drop, ← Lib.size_eq]
  omega
theorem cut_size {s : ByteArray} {k : Nat} (h : s.size ≤ maxLen) : (s.extract 0 k).size ≤ maxLen := by
  rw [ByteArray.size_extract]
  omega
/-- What Num answers and leaves behind, at a number to come. -/
theorem num_step (bk m : Nat) (X : List UInt8) (w : World) (hm : m < 2 ^ 63) (h : Short bk (nm m ++ X) w) :
    ∃ v : Int, Calls Try.prog 16 #[ptr bk] w (fun e w' => e = .returned (.int .i64 v) ∧ Short bk X w' ∧ Below bk w w' ∧ (v = m ∨ ∃ l : ByteArray, l.size ≤ maxLen ∧ RdAt bk l 30 w')) := by
  rcases h with ⟨l, k, hl, hk, hs, hr⟩ | ⟨l, hs, hr⟩
  · by_cases hkm : k < (nm m).length
    · refine ⟨0, (num_bad bk l w 30 hr hs (by rw [hl]; exact rd_short hm hkm) (by decide)).mono ?_⟩
      rintro e w' ⟨rfl, s, h1, h2, h3⟩
      have h4 : s.size ≤ maxLen := by rw [same_size h1]; exact hs
      exact ⟨rfl, .inr ⟨s, h4, h2⟩, h3, .inr ⟨s, h4, h2⟩⟩
    · rw [take_over (by omega)] at hl
      have hrd : rd 0 0 l.data.toList = (m, (nm m).length, 0) := by rw [hl]; exact rd_head hm
      refine ⟨m, (num_ok bk l w m _ hr hs hrd).mono ?_⟩
      rintro e w' ⟨rfl, s, h1, h2, h3⟩
      have h4 : s.size ≤ maxLen := Nat.le_trans (drop_size h1) hs
      rw [hl, List.drop_left] at h1
      rw [List.length_append] at hk
      exact ⟨rfl, .inl ⟨s, _, h1, by omega, h4, h2⟩, h3, .inl rfl⟩
  · refine ⟨0, (num_stop bk l 30 w hr (by decide)).mono ?_⟩
    rintro e w' ⟨rfl, s, h1, h2, h3⟩
    have h4 : s.size ≤ maxLen := by rw [same_size h1]; exact hs
    exact ⟨rfl, .inr ⟨s, h4, h2⟩, h3, .inr ⟨s, h4, h2⟩⟩
/-- What Text answers and leaves behind, at a text to come. -/
theorem text_step (bk : Nat) (t : ByteArray) (X : List UInt8) (w : World) (ht : t.data.toList.length < 2 ^ 63) (h : Short bk (textS t.data.toList ++ X) w) :
    ∃ b : Bool, Calls Try.prog 17 #[ptr bk, .int .i64 t.size] w (fun e w' => ∃ u : ByteArray, e = .returned (.string u) ∧ Short bk X w' ∧ Below bk w w' ∧ (u.toList == t.toList) = b ∧ (b = true ∨ ∃ l : ByteArray, l.size ≤ maxLen ∧ RdAt bk l 30 w')) := by
  have bad : ∀ l : ByteArray, Calls Try.prog 17 #[ptr bk, .int .i64 t.size] w (TxPost bk [] l.data.toList 30 w) → l.size ≤ maxLen →
      ∃ b : Bool, Calls Try.prog 17 #[ptr bk, .int .i64 t.size] w (fun e w' => ∃ u : ByteArray, e = .returned (.string u) ∧ Short bk X w' ∧ Below bk w w' ∧ (u.toList == t.toList) = b ∧ (b = true ∨ ∃ l : ByteArray, l.size ≤ maxLen ∧ RdAt bk l 30 w')) := by
    intro l c hs
    refine ⟨([] : List UInt8) == t.toList, c.mono ?_⟩
    rintro e w' ⟨u, hu, rfl, s, h1, h2, h3⟩
    have h4 : s.size ≤ maxLen := by rw [same_size h1]; exact hs
    exact ⟨u, rfl, .inr ⟨s, h4, h2⟩, h3, by rw [Lib.toList_data, hu], .inr ⟨s, h4, h2⟩⟩
  rcases h with ⟨l, k, hl, hk, hs, hr⟩ | ⟨l, hs, hr⟩
  · by_cases hkm : k < (textS t.data.toList).length
    · exact bad l (text_bad bk l t.size w 30 hr hs (by rw [hl, Lib.size_eq]; exact cnt_short1 ht hkm) (by decide)) hs
    · rw [take_over (by omega)] at hl
      have hrd : cnt l.data.toList (t.size : Int) 1 = (t.data.toList.length, (nm t.data.toList.length).length, 0) := by rw [hl, Lib.size_eq]; exact cnt_head ht
      have c := text_ok bk l t.size w _ _ hr hs hrd
      refine ⟨true, c.mono ?_⟩
      rintro e w' ⟨u, hu, rfl, s, h1, h2, h3⟩
      have h4 : s.size ≤ maxLen := Nat.le_trans (drop_size h1) hs
      rw [hl, text_mid] at hu
      rw [hl, text_end] at h1
      rw [List.length_append] at hk
      exact ⟨u, rfl, .inl ⟨s, _, h1, by omega, h4, h2⟩, h3, by rw [Lib.toList_data, hu, Lib.toList_data]; simp, .inl rfl⟩
  · exact bad l (text_stop bk l 30 t.size w hr (by decide)) hs
theorem Short.done {bk : Nat} {w : World} (h : Short bk [] w) : ∃ l : ByteArray, l.size ≤ maxLen ∧ RdAt bk l 30 w := by
  rcases h with ⟨l, k, hl, hk, _⟩ | h
  · simp at hk
  · exact h

set_option maxRecDepth 100000 in
set_option maxHeartbeats 6400000 in
theorem short_law (a0 a1 : Option Addr) (c0 c1 : Nat) (ns : List Int) (ts : List ByteArray) (cut : Int) (w : World) (h0 : IntsAt w a0 ns) (h1 : StrsAt w a1 ts)
    (hn : ∀ n ∈ ns, n < 2 ^ 63) (hlen : (numsS ns).length + (textsS ts).length ≤ maxLen) (l0 : ns.length ≤ maxLen) (l1 : ts.length ≤ maxLen) :
    Calls Try.prog 6 #[.slice a0 ns.length c0, .slice a1 ts.length c1, .int .i64 cut] w (Yes w) := by
  have cAw := awake_any w
  have H0 := Lib.hid h0
  have H1 := Lib.hid h1
  have HN := Lib.hid hn
  have HL := Lib.hid hlen
  unfold maxLen at l0 l1
  clear h0 h1 hn hlen
  go_enter Try.func6, Try.ntmps6
  go_wp2_with fail
  refine cAw.mono ?_
  rintro e w1 ⟨rfl, hb1⟩
  have HB1 := Lib.hid hb1
  clear hb1 cAw
  go_wp2
  go_loopw [7, 22] (fun s7 s22 wr => ∃ (k : Nat) (t : ByteArray), k ≤ ns.length ∧ s22 = .int .i64 k ∧ s7 = .string t ∧ t.data.toList = numsS (ns.take k) ∧ Below w.heap.size w wr) (fun _ s22 _ => ns.length - (Go.RowKit.intOf s22).toNat)
  case atStart => exact ⟨0, ByteArray.empty, Nat.zero_le _, rfl, rfl, rfl, HB1.out⟩
  case round =>
    obtain ⟨k, t, hk, rfl, rfl, ht, hb⟩ := hrel
    have HT := Lib.hid ht
    have HB := Lib.hid hb
    clear ht hb
    by_cases hlt : k < ns.length
    · obtain ⟨n, hc⟩ : ∃ n, ns[k]? = some n := ⟨ns[k], List.getElem?_eq_getElem hlt⟩
      obtain ⟨g, o, rfl, hg, hcc⟩ := H0.out (by omega)
      have hz : (k : Int) < ns.length := by omega
      have hcell : wr.cell? ⟨g, o + k, none⟩ = some (.int .i64 n) := by rw [HB.out.cell (p := ⟨g, o + k, none⟩) hg]; exact hcc k n hc
      have cN := num_any n wr (HN.out n (List.mem_of_getElem? hc))
      have HK := Lib.hid (nums_take hc)
      have hle := nums_le ns (k + 1)
      clear hcc hc
      by_cases hneg : n < 0
      · have HT2 : Hid (t.data.toList = numsS (ns.take (k + 1))) := Lib.hid (by rw [HK.out, num_none hneg, HT.out, List.append_nil])
        clear cN hle
        go_wp2
        go_roundw
        case rel => exact ⟨k + 1, t, by omega, by go_num, rfl, HT2.out, HB.out⟩
        case measure => simp [Go.RowKit.intOf]; omega
      · go_wp2_with fail
        refine cN.mono ?_
        rintro e w2 ⟨v, rfl, hv, hb2⟩
        have HB2 := Lib.hid (HB.out.trans (hb2.mono HB.out.size))
        have HT2 : Hid ((t ++ v).data.toList = numsS (ns.take (k + 1))) := Lib.hid (by rw [cat_data, HT.out, hv, HK.out])
        have hsz : t.size + v.size ≤ 9223372036854775807 := by
          have e1 := congrArg List.length HT2.out
          rw [← Lib.size_eq, ByteArray.size_append] at e1
          have := HL.out
          unfold maxLen at this
          omega
        clear hv hb2 cN hle
        go_wp2
        go_roundw
        case rel => exact ⟨k + 1, t ++ v, by omega, by go_num, rfl, HT2.out, HB2.out⟩
        case measure => simp [Go.RowKit.intOf]; omega
    · have hz : ¬ (k : Int) < ns.length := by omega
      rw [List.take_of_length_le (by omega)] at HT
      go_wp2
      go_loopw [7, 35] (fun s7 s35 wr => ∃ (k : Nat) (t : ByteArray), k ≤ ts.length ∧ s35 = .int .i64 k ∧ s7 = .string t ∧ t.data.toList = numsS ns ++ textsS (ts.take k) ∧ Below w.heap.size w wr) (fun _ s35 _ => ts.length - (Go.RowKit.intOf s35).toNat)
      case atStart => exact ⟨0, t, Nat.zero_le _, rfl, rfl, by rw [HT.out]; simp [textsS], HB.out⟩
      case round =>
        obtain ⟨k, t, hk, rfl, rfl, ht, hb⟩ := hrel
        have HT := Lib.hid ht
        have HB := Lib.hid hb
        clear ht hb
        by_cases hlt : k < ts.length
        · obtain ⟨n, hc⟩ : ∃ n, ts[k]? = some n := ⟨ts[k], List.getElem?_eq_getElem hlt⟩
          obtain ⟨g, o, rfl, hg, hcc⟩ := H1.out (by omega)
          have hz : (k : Int) < ts.length := by omega
          have hcell : wr.cell? ⟨g, o + k, none⟩ = some (Value.string n) := by rw [HB.out.cell (p := ⟨g, o + k, none⟩) hg]; exact hcc k n hc
          have htsz : (nm n.size).length + n.size ≤ maxLen := by
            have e1 := texts_le ts (k + 1)
            rw [texts_take hc, List.length_append] at e1
            unfold textS at e1
            rw [List.length_append, ← Lib.size_eq] at e1
            have := HL.out
            omega
          have cN := text_wr n wr htsz
          have HK := Lib.hid (texts_take hc)
          have hle := texts_le ts (k + 1)
          clear hcc hc
          go_wp2_with fail
          refine cN.mono ?_
          rintro e w2 ⟨v, rfl, hv, hb2⟩
          have HB2 := Lib.hid (HB.out.trans (hb2.mono HB.out.size))
          have HT2 : Hid ((t ++ v).data.toList = numsS ns ++ textsS (ts.take (k + 1))) := Lib.hid (by rw [cat_data, HT.out, hv, HK.out] <;> simp only [List.append_assoc])
          have hsz : t.size + v.size ≤ 9223372036854775807 := by
            have e1 := congrArg List.length HT2.out
            rw [← Lib.size_eq, ByteArray.size_append] at e1
            try simp only [List.length_append] at e1
            have := HL.out
            unfold maxLen at this
            omega
          clear hv hb2 cN hle
          go_wp2
          go_roundw
          case rel => exact ⟨k + 1, t ++ v, by omega, by go_num, rfl, HT2.out, HB2.out⟩
          case measure => simp [Go.RowKit.intOf]; omega
        · have hz : ¬ (k : Int) < ts.length := by omega
          rw [List.take_of_length_le (by omega)] at HT
          have Htl := Lib.hid (show t.data.toList = numsS ns ++ textsS ts by rw [HT.out])
          have hts : t.size ≤ maxLen := by
            rw [Lib.size_eq, Htl.out, List.length_append]
            exact HL.out
          have Hts := Lib.hid hts
          unfold maxLen at hts
          by_cases hc0 : cut < 0
          · go_wp2
            go_ret
            exact ⟨rfl, HB.out⟩
          · obtain ⟨j, rfl⟩ := nat_i64 (n := cut) (by omega)
            by_cases hc1 : t.size ≤ j
            · have hz1 : (t.size : Int) ≤ j := by omega
              go_wp2
              go_ret
              exact ⟨rfl, HB.out⟩
            · have hz1 : (j : Int) < t.size := by omega
              go_wp2_with fail
              refine (new_any (t.extract 0 j) wr).mono ?_
              rintro e w2 ⟨rfl, hr2, hb2⟩
              have hbk : w.heap.size ≤ wr.heap.size := HB.out.size
              have HB0 := Lib.hid (HB.out.trans (hb2.mono hbk))
              generalize hbe : wr.heap.size = bk at *
              have HS0 : Hid (Short bk (numsS (ns.drop 0) ++ textsS ts) w2) := Lib.hid (.inl ⟨t.extract 0 j, j, by rw [take_data, Htl.out]; rfl, by
                have e1 := congrArg List.length Htl.out
                rw [← Lib.size_eq] at e1
                rw [List.drop_zero]
                omega, cut_size Hts.out, hr2⟩)
              clear hr2 hb2 hbe
              go_wp2
              go_loopw [58] (fun s58 wr => ∃ k : Nat, k ≤ ns.length ∧ s58 = .int .i64 k ∧ Short bk (numsS (ns.drop k) ++ textsS ts) wr ∧ Below w.heap.size w wr) (fun s58 _ => ns.length - (Go.RowKit.intOf s58).toNat)
              case atStart => exact ⟨0, Nat.zero_le _, rfl, HS0.out, HB0.out⟩
              case round =>
                obtain ⟨k, hk, rfl, hsh, hb⟩ := hrel
                have HS := Lib.hid hsh
                have HB := Lib.hid hb
                clear hsh hb
                by_cases hlt : k < ns.length
                · obtain ⟨n, hc⟩ : ∃ n, ns[k]? = some n := ⟨ns[k], List.getElem?_eq_getElem hlt⟩
                  obtain ⟨g, o, rfl, hg, hcc⟩ := H0.out (by omega)
                  have hz : (k : Int) < ns.length := by omega
                  have hcell : wr.cell? ⟨g, o + k, none⟩ = some (Value.int .i64 n) := by rw [HB.out.cell (p := ⟨g, o + k, none⟩) hg]; exact hcc k n hc
                  by_cases hneg : n < 0
                  · have HS2 : Hid (Short bk (numsS (ns.drop (k + 1)) ++ textsS ts) wr) := Lib.hid (by have h := HS.out; rw [nums_drop hc, num_none hneg] at h; exact h)
                    have HB2 := HB
                    clear hcc hc
                    go_wp2
                    go_roundw
                    case rel => exact ⟨k + 1, by omega, by go_num, HS2.out, HB2.out⟩
                    case measure => simp [Go.RowKit.intOf]; omega
                  · obtain ⟨m, rfl⟩ := nat_i64 (n := n) (by omega)
                    have hm63 : m < 2 ^ 63 := by have := HN.out _ (List.mem_of_getElem? hc); omega
                    rw [nums_drop hc, num_pos, List.append_assoc] at HS
                    obtain ⟨v, cF⟩ := num_step bk m _ wr hm63 HS.out
                    clear hcc hc
                    go_wp2_with fail
                    refine cF.mono ?_
                    rintro e w2 ⟨rfl, hsh, hb2, hor⟩
                    have HS2 := Lib.hid hsh
                    have HB2 := Lib.hid (HB.out.trans (hb2.mono hbk))
                    clear hsh hb2 cF
                    by_cases hv : v = m
                    · subst hv
                      clear hor
                      go_wp2
                      go_roundw
                      case rel => exact ⟨k + 1, by omega, by go_num, HS2.out, HB2.out⟩
                      case measure => simp [Go.RowKit.intOf]; omega
                    · obtain ⟨l, hs, hr⟩ : ∃ l : ByteArray, l.size ≤ maxLen ∧ RdAt bk l 30 w2 := by
                        rcases hor with h | h
                        · exact absurd h hv
                        · exact h
                      have cE := end_30 bk l w2 hr hs
                      have hvb : (v != (m : Int)) = true := by simpa using hv
                      clear hor hs hr hv
                      go_wp2_with fail
                      refine cE.mono ?_
                      rintro e w6 ⟨rfl, rfl⟩
                      go_wp2
                      go_roundw
                      case rel => exact ⟨k + 1, by omega, by go_num, HS2.out, HB2.out⟩
                      case measure => simp [Go.RowKit.intOf]; omega
                · have hz : ¬ (k : Int) < ns.length := by omega
                  rw [List.drop_of_length_le (by omega)] at HS
                  go_wp2
                  go_loopw [78] (fun s78 wr => ∃ k : Nat, k ≤ ts.length ∧ s78 = .int .i64 k ∧ Short bk (textsS (ts.drop k)) wr ∧ Below w.heap.size w wr) (fun s78 _ => ts.length - (Go.RowKit.intOf s78).toNat)
                  case atStart => exact ⟨0, Nat.zero_le _, rfl, by have h := HS.out; simpa [numsS] using h, HB.out⟩
                  case round =>
                    obtain ⟨k, hk, rfl, hsh, hb⟩ := hrel
                    have HS := Lib.hid hsh
                    have HB := Lib.hid hb
                    clear hsh hb
                    by_cases hlt : k < ts.length
                    · obtain ⟨n, hc⟩ : ∃ n, ts[k]? = some n := ⟨ts[k], List.getElem?_eq_getElem hlt⟩
                      obtain ⟨g, o, rfl, hg, hcc⟩ := H1.out (by omega)
                      have hz : (k : Int) < ts.length := by omega
                      have hcell : wr.cell? ⟨g, o + k, none⟩ = some (Value.string n) := by rw [HB.out.cell (p := ⟨g, o + k, none⟩) hg]; exact hcc k n hc
                      have hn63 : n.data.toList.length < 2 ^ 63 := by
                        have e1 := drop_le_t ts k
                        rw [texts_drop hc, List.length_append] at e1
                        unfold textS at e1
                        rw [List.length_append] at e1
                        have := HL.out
                        unfold maxLen at this
                        omega
                      rw [texts_drop hc] at HS
                      obtain ⟨b, cF⟩ := text_step bk n _ wr hn63 HS.out
                      have hnsz : (n.size : Int) ≤ 9223372036854775807 := by rw [Lib.size_eq]; omega
                      clear hcc hc hn63
                      go_wp2_with fail
                      refine cF.mono ?_
                      rintro e w2 ⟨u, rfl, hsh, hb2, hub, hor⟩
                      have HS2 := Lib.hid hsh
                      have HB2 := Lib.hid (HB.out.trans (hb2.mono hbk))
                      clear hsh hb2 cF
                      cases b
                      · obtain ⟨l, hs, hr⟩ : ∃ l : ByteArray, l.size ≤ maxLen ∧ RdAt bk l 30 w2 := by
                          rcases hor with h | h
                          · cases h
                          · exact h
                        have cE := end_30 bk l w2 hr hs
                        clear hor hs hr
                        go_wp2_with fail
                        refine cE.mono ?_
                        rintro e w6 ⟨rfl, rfl⟩
                        go_wp2
                        go_roundw
                        case rel => exact ⟨k + 1, by omega, by go_num, HS2.out, HB2.out⟩
                        case measure => simp [Go.RowKit.intOf]; omega
                      · clear hor
                        go_wp2
                        go_roundw
                        case rel => exact ⟨k + 1, by omega, by go_num, HS2.out, HB2.out⟩
                        case measure => simp [Go.RowKit.intOf]; omega
                    · have hz : ¬ (k : Int) < ts.length := by omega
                      rw [List.drop_of_length_le (by omega)] at HS
                      go_wp2_with fail
                      obtain ⟨l, hs, hr⟩ := Short.done HS.out
                      have cE := end_30 bk l wr hr hs
                      clear hr hs
                      refine cE.mono ?_
                      rintro e w6 ⟨rfl, rfl⟩
                      go_wp2
                      go_ret
                      exact ⟨rfl, HB.out⟩
end CS
end Go.Proofs.Ytmcofccmbbjkjaa
