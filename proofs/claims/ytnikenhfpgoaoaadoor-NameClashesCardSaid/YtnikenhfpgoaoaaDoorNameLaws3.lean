/- Layer 1: the walk of the statement NameClashes: it answers true, for every list of texts. -/
import Derived.Test.YtnikenhfpgoaoaaDoorNameLaws1
import Derived.Test.YtnikenhfpgoaoaaDoorNameClash
import Derived.Lib.QuietBelow
import Derived.BigQuiet
import Derived.Deep.RegionWith
namespace Go.Proofs.YtnikenhfpgoaoaaDoor
open Go.RowKit Go.Lib
namespace NX
open NF NL NFo NK

def foldB (s : ByteArray) : ByteArray := ⟨(foldL s.data.toList).toArray⟩
theorem fold_val (s : ByteArray) (hs : s.size ≤ maxLen) (w : World) :
    Calls Tryd.prog 17 #[.string s] w fun e w' => e = .returned (.string (foldB s)) ∧ Below w.heap.size w w' := by
  refine (fold_any s w hs).mono ?_
  rintro e w' ⟨t, rfl, ht, hb⟩
  refine ⟨?_, hb⟩
  unfold foldB
  rw [← ht, Lib.mk_data]
theorem foldB_eq {x y : ByteArray} (h : foldL x.data.toList = foldL y.data.toList) : foldB x = foldB y := by unfold foldB; rw [h]
theorem foldB_ne {x y : ByteArray} (h : foldL x.data.toList ≠ foldL y.data.toList) : ((foldB x).toList == (foldB y).toList) = false := by
  rw [Lib.toList_data, Lib.toList_data]
  unfold foldB
  simpa using h
theorem ne_list {x y : ByteArray} (h : x.data.toList ≠ y.data.toList) : (x.toList == y.toList) = false := by
  rw [Lib.toList_data, Lib.toList_data]; simpa using h
theorem eq_list {x y : ByteArray} (h : x.data.toList = y.data.toList) : (x.toList == y.toList) = true := by
  rw [Lib.toList_data, Lib.toList_data]; simpa using h

set_option maxRecDepth 100000 in
set_option maxHeartbeats 1600000 in
theorem clashes_nil (a : Option Addr) (c : Nat) (w : World) (he : Env w) :
    Calls Tryd.prog 7 #[.slice a 0 c] w (Yes w) := by
  have cAw := awake_any w he
  have cC := fun W => clash_nil a c W
  clear he
  go_enter Tryd.func7, Tryd.ntmps7
  go_wp2_with fail
  refine cAw.mono ?_
  rintro e w1 ⟨rfl, hb1⟩
  have HB1 := Lib.hid hb1
  clear hb1 cAw
  go_wp2_with fail
  refine (cC _).mono ?_
  rintro e w2 ⟨i, j, rfl, ht, hb2⟩
  have HB2 := Lib.hid (HB1.out.trans (hb2.mono HB1.out.size))
  clear hb2 cC HB1
  rcases ht with ⟨rfl, rfl, _⟩ | ⟨m, n, rfl, rfl, h1, h2, _⟩
  · go_wp2
    refine wp_loop_rounds 1 ?_
    rw [rounds_succ]
    go_wp2
    go_ret
    exact ⟨rfl, HB2.out⟩
  · simp at h2
set_option maxRecDepth 100000 in
set_option maxHeartbeats 1200000 in
theorem clashes_any (bk o c : Nat) (ps : List ByteArray) (w : World) (he : Env w) (hcells : ∀ (j : Nat) x, ps[j]? = some x → w.cell? ⟨bk, o + j, none⟩ = some (.string x))
    (hbk : bk < w.heap.size) (hsz : ∀ x ∈ ps, x.size ≤ maxLen) :
    Calls Tryd.prog 7 #[.slice (some ⟨bk, o, none⟩) ps.length c] w (Yes w) := by
  have cAw := awake_any w he
  have Hc := Lib.hid hcells
  have Hsz := Lib.hid hsz
  clear hcells hsz he
  by_cases h30 : 30 < ps.length
  · have hz : (30 : Int) < ps.length := by omega
    go_enter Tryd.func7, Tryd.ntmps7
    go_wp2_with fail
    refine cAw.mono ?_
    rintro e w1 ⟨rfl, hb1⟩
    go_wp2
    go_ret
    exact ⟨rfl, hb1⟩
  · have hz : ¬ (30 : Int) < ps.length := by omega
    go_enter Tryd.func7, Tryd.ntmps7
    go_wp2_with fail
    refine cAw.mono ?_
    rintro e w1 ⟨rfl, hb1⟩
    have HB1 := Lib.hid hb1
    have cC := clash_any bk o c ps w1 (fun j x hj => by rw [HB1.out.cell (p := ⟨bk, o + j, none⟩) hbk]; exact Hc.out j x hj) (Nat.lt_of_lt_of_le hbk hb1.size) Hsz.out (by unfold maxLen; omega)
    clear hb1 cAw
    go_wp2_with fail
    refine cC.mono ?_
    rintro e w2 ⟨i, j, rfl, ht, hb2⟩
    have HB2 := Lib.hid (HB1.out.trans (hb2.mono HB1.out.size))
    clear hb2 cC HB1
    rcases ht with ⟨rfl, rfl, hno⟩ | ⟨m, n, rfl, rfl, h1, h2, h3, h4⟩
    · have HN := Lib.hid hno
      clear hno
      go_wp2
      go_loopw [54] (fun i wr => ∃ k : Nat, k ≤ ps.length ∧ i = .int .i64 k ∧ Below w2.heap.size w2 wr) (fun i _ => ps.length - (Go.RowKit.intOf i).toNat)
      case atStart => exact ⟨0, Nat.zero_le _, rfl, Below.refl _ _⟩
      case round =>
        obtain ⟨k, hk, rfl, hbr⟩ := hrel
        have HBR := Lib.hid hbr
        clear hbr
        by_cases hlt : k < ps.length
        · obtain ⟨x, hx⟩ : ∃ x, ps[k]? = some x := ⟨ps[k], List.getElem?_eq_getElem hlt⟩
          have Hx := Lib.hid hx
          clear hx
          have hkz : (k : Int) < ps.length := by omega
          go_wp2
          go_loopw [58] (fun i wr => ∃ b : Nat, b ≤ k ∧ i = .int .i64 b ∧ Below w2.heap.size w2 wr) (fun i _ => k - (Go.RowKit.intOf i).toNat)
          case atStart => exact ⟨0, Nat.zero_le _, rfl, HBR.out⟩
          case round =>
            obtain ⟨b, hb, rfl, hbi⟩ := hrel
            have HBI := Lib.hid hbi
            clear hbi HBR
            by_cases hbk2 : b < k
            · obtain ⟨y, hy⟩ : ∃ y, ps[b]? = some y := ⟨ps[b]'(by omega), List.getElem?_eq_getElem _⟩
              have hbz : (b : Int) < k := by omega
              have hbl : (b : Int) < ps.length := by omega
              have hbk3 : bk < w2.heap.size := Nat.lt_of_lt_of_le hbk HB2.out.size
              have cx : wr.cell? ⟨bk, o + k, none⟩ = some (.string x) := by rw [HBI.out.cell (p := ⟨bk, o + k, none⟩) hbk3, HB2.out.cell (p := ⟨bk, o + k, none⟩) hbk]; exact Hc.out k x Hx.out
              have cy : wr.cell? ⟨bk, o + b, none⟩ = some (.string y) := by rw [HBI.out.cell (p := ⟨bk, o + b, none⟩) hbk3, HB2.out.cell (p := ⟨bk, o + b, none⟩) hbk]; exact Hc.out b y hy
              have k1 := cell_regrown cx
              have k2 := cell_regrown cy
              have hsx := Hsz.out x (List.mem_of_getElem? Hx.out)
              have hsy := Hsz.out y (List.mem_of_getElem? hy)
              by_cases hxy : x.data.toList = y.data.toList
              · have hd := eq_list hxy
                clear hxy hy
                go_wp2
                with_reducible refine wp_region_quiet_below (by kernel_rfl) (by kernel_rfl) ?_
                repeat (go_big_quiet_step (fail))
                refine wpQuiet_nil ?_
                intro _ hw'
                obtain ⟨⟨dq, osq⟩, hw''⟩ := hw'
                subst hw''
                have HB5 := Lib.hid (HBI.out.trans ((below_regrown wr dq osq).mono HBI.out.size))
                go_wp2
                go_roundw
                case rel => exact ⟨b + 1, by omega, by go_num, HB5.out⟩
                case measure => simp [Go.RowKit.intOf]; omega
              · have hd := ne_list hxy
                have hf : foldL x.data.toList ≠ foldL y.data.toList := by
                  intro e
                  have := HN.out k b hbk2 hlt (by rw [P_of Hx.out, P_of hy, e])
                  rw [P_of Hx.out, P_of hy] at this
                  exact hxy this.symm
                have hfd := foldB_ne hf
                have cX : ∀ d os, Calls Tryd.prog 17 #[.string x] (Go.Sort.grow (redrawn wr d) os) fun e w'' => e = .returned (.string (foldB x)) ∧ ∃ p : Regrown, w'' = Go.Sort.grow (redrawn wr p.d) p.os := fun d os => Calls.regrown_of (fold_val x hsx _)
                have cY : ∀ d os, Calls Tryd.prog 17 #[.string y] (Go.Sort.grow (redrawn wr d) os) fun e w'' => e = .returned (.string (foldB y)) ∧ ∃ p : Regrown, w'' = Go.Sort.grow (redrawn wr p.d) p.os := fun d os => Calls.regrown_of (fold_val y hsy _)
                clear hxy hy hf
                go_wp2
                with_reducible refine wp_region_quiet_below (by kernel_rfl) (by kernel_rfl) ?_
                repeat (go_big_quiet_step (first | (go_at_call_of 17 (Value.string x); exact cX _ _) | (go_at_call_of 17 (Value.string y); exact cY _ _)))
                refine wpQuiet_nil ?_
                intro _ hw'
                obtain ⟨⟨dq, osq⟩, hw''⟩ := hw'
                subst hw''
                have HB5 := Lib.hid (HBI.out.trans ((below_regrown wr dq osq).mono HBI.out.size))
                go_wp2
                go_roundw
                case rel => exact ⟨b + 1, by omega, by go_num, HB5.out⟩
                case measure => simp [Go.RowKit.intOf]; omega
            · have hbz : ¬ (b : Int) < k := by omega
              go_wp2
              go_roundw
              case rel => exact ⟨k + 1, by omega, by go_num, HBI.out⟩
              case measure => simp [Go.RowKit.intOf]; omega
        · have hkz : ¬ (k : Int) < ps.length := by omega
          go_wp2
          go_ret
          exact ⟨rfl, HB2.out.trans (HBR.out.mono HB2.out.size)⟩
    · obtain ⟨x, hx⟩ : ∃ x, ps[m]? = some x := ⟨ps[m]'(by omega), List.getElem?_eq_getElem _⟩
      obtain ⟨y, hy⟩ : ∃ y, ps[n]? = some y := ⟨ps[n]'(by omega), List.getElem?_eq_getElem _⟩
      rw [P_of hx, P_of hy] at h3 h4
      have cx : w2.cell? ⟨bk, o + m, none⟩ = some (.string x) := by rw [HB2.out.cell (p := ⟨bk, o + m, none⟩) hbk]; exact Hc.out m x hx
      have cy : w2.cell? ⟨bk, o + n, none⟩ = some (.string y) := by rw [HB2.out.cell (p := ⟨bk, o + n, none⟩) hbk]; exact Hc.out n y hy
      have hne := ne_list h4
      have he := foldB_eq h3
      have hmn : (m : Int) < n := by omega
      have hnl : (n : Int) < ps.length := by omega
      have hml : (m : Int) < ps.length := by omega
      have k1 := cell_regrown cx
      have k2 := cell_regrown cy
      have cX : ∀ d os, Calls Tryd.prog 17 #[.string x] (Go.Sort.grow (redrawn w2 d) os) fun e w'' => e = .returned (.string (foldB x)) ∧ ∃ p : Regrown, w'' = Go.Sort.grow (redrawn w2 p.d) p.os := fun d os => Calls.regrown_of (fold_val x (Hsz.out x (List.mem_of_getElem? hx)) _)
      have cY : ∀ d os, Calls Tryd.prog 17 #[.string y] (Go.Sort.grow (redrawn w2 d) os) fun e w'' => e = .returned (.string (foldB x)) ∧ ∃ p : Regrown, w'' = Go.Sort.grow (redrawn w2 p.d) p.os := fun d os => by rw [he]; exact Calls.regrown_of (fold_val y (Hsz.out y (List.mem_of_getElem? hy)) _)
      have hself : ((foldB x).toList == (foldB x).toList) = true := by simp
      clear h3 h4 hx hy he
      go_wp2
      with_reducible refine wp_region_quiet_below (by kernel_rfl) (by kernel_rfl) ?_
      repeat (go_big_quiet_step (first | (go_at_call_of 17 (Value.string x); exact cX _ _) | (go_at_call_of 17 (Value.string y); exact cY _ _)))
      refine wpQuiet_nil ?_
      intro _ hw'
      obtain ⟨⟨dq, osq⟩, hw''⟩ := hw'
      subst hw''
      go_wp2
      go_ret
      exact ⟨rfl, HB2.out.trans ((below_regrown w2 dq osq).mono HB2.out.size)⟩
end NX
end Go.Proofs.YtnikenhfpgoaoaaDoor
