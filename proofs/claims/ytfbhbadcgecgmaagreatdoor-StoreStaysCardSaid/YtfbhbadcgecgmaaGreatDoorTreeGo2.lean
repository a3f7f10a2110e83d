/- Layer 6: the contracts of the program's within (sort.Search over a closure), goesOn, rightNode, hasNoPath. -/
import Derived.Test.YtfbhbadcgecgmaaGreatDoorTreeGo1
import Derived.Test.YtfbhbadcgecgmaaGreatDoorNameLow
import Derived.Lib.IndexLaws
namespace Go.Proofs.YtfbhbadcgecgmaaGreatDoor
open Go.RowKit Go.Lib Go.BigFrame
namespace TG
open OM TP TM

/-- A callee's contract, met in a world of a region that draws its order. -/
theorem reg_g {f : FuncId} {args : Array Value} {v : Value} {w : World} (h : ∀ W, Below w.heap.size w W → Calls Tryz.prog f args W fun e w' => e = .returned v ∧ Below W.heap.size W w') (d : Nat) (os : Array Obj) :
    Calls Tryz.prog f args (Go.Sort.grow (redrawn w d) os) fun e w'' => e = .returned v ∧ ∃ p : Regrown, w'' = Go.Sort.grow (redrawn w p.d) p.os := Calls.regrown_of (h _ (below_regrown w d os))
theorem path_txt (S : ByteArray) (l : List UInt8) (w : World) (he : NF.Env w) (hS : S.data.toList = l) (h : l.length ≤ 1048576) :
    Calls Tryz.prog 42 #[.string S] w fun e w' => e = .returned (.bool (NP.pathL l)) ∧ Below w.heap.size w w' := by
  subst hS
  exact NF.path_any S w he (by rw [Lib.size_eq]; unfold maxLen; omega)
theorem within_txt (S T : ByteArray) (p q : List UInt8) (w : World) (he : NF.Env w) (hS : S.data.toList = p) (hT : T.data.toList = q) (h : p.length ≤ 1048576) :
    Calls Tryz.prog 99 #[.string S, .string T] w fun e w' => e = .returned (.bool (NP.withinL p q)) ∧ Below w.heap.size w w' := by
  subst hS hT
  exact NI.within_any S T w he (by rw [Lib.size_eq]; unfold maxLen; omega)
theorem parent_txt (S : ByteArray) (l : List UInt8) (w : World) (he : NF.Env w) (hS : S.data.toList = l) (h : l.length ≤ 1048576) :
    Calls Tryz.prog 94 #[.string S] w fun e w' => e = .returned (txt (NP.parentL l)) ∧ Below w.heap.size w w' := by
  subst hS
  refine (NC.parent_any S w he (by rw [Lib.size_eq]; unfold maxLen; omega)).mono ?_
  rintro e w' ⟨t, rfl, ht, hb⟩
  exact ⟨by rw [← ht, txt_data], hb⟩
theorem parent_len (p : List UInt8) : (NP.parentL p).length ≤ p.length := by
  unfold NP.parentL
  split
  · by_cases h : p = []
    · rw [h]; exact Nat.le_refl _
    · exact Nat.le_of_lt (up_short h)
  · exact Nat.zero_le _
set_option maxRecDepth 100000 in
set_option maxHeartbeats 1600000 in
theorem wc_any (bl bf bp : Nat) (W : World) (he : NF.Env W) (ao : Option Addr) (cap : Nat) (ts : List Nd) (p : List UInt8) (f i : Nat) (x : Nd)
    (hl : W.cell? ⟨bl, 0, none⟩ = some (.slice ao ts.length cap)) (hf : W.cell? ⟨bf, 0, none⟩ = some (.int .i64 f)) (hp : W.cell? ⟨bp, 0, none⟩ = some (txt p))
    (h : LayN W ao ts) (hs : SmallG ts) (hlen : ts.length ≤ 1000) (hx : ts[f + i]? = some x) :
    Calls Tryz.prog 178 #[.int .i64 i, .pointer (some ⟨bl, 0, none⟩), .pointer (some ⟨bf, 0, none⟩), .pointer (some ⟨bp, 0, none⟩)] W fun r w' => r = .returned (.bool (!NP.withinL x.path p)) ∧ Below W.heap.size W w' := by
  obtain ⟨n, hn⟩ : ∃ n, ts.length = n := ⟨_, rfl⟩
  obtain ⟨m, hm⟩ : ∃ m, f + i = m := ⟨_, rfl⟩
  have hmz : (f : Int) + (i : Int) = m := by omega
  rw [hm] at hx
  have hml := (List.getElem?_eq_some_iff.1 hx).1
  rw [hn] at hl hlen hml
  have hmn : (m : Int) < n := by omega
  obtain ⟨g, o, rfl, hg, hc⟩ := h (by omega)
  obtain ⟨X, hX, hXd⟩ := txt_of x.path
  obtain ⟨S, hS, hSd⟩ := txt_of p
  obtain ⟨b, hb⟩ : ∃ b, NP.withinL x.path p = b := ⟨_, rfl⟩
  have c0 := (hc m x hx).p
  rw [hX] at c0
  rw [hS] at hp
  have hmem := List.mem_of_getElem? hx
  have D := Lib.hid (reg_g (w := W) (f := 99) (args := #[.string X, .string S]) (v := .bool b) (fun W' hW => by
    have := within_txt X S x.path p W' (he.below hW) hXd hSd (hs x hmem).1
    rw [hb] at this
    exact this))
  have fl := cell_regrown hl
  have ff := cell_regrown hf
  have fp := cell_regrown hp
  have f0 := cell_regrown c0
  rw [hb]
  clear hb hX hXd hS hSd hmem hs hc hx h hn hm he hml
  go_enter Tryz.func178, Tryz.ntmps178
  repeat (first | go_skip | go_guarded | go_step | go_upon)
  with_reducible refine wp_region_quiet_below (by kernel_rfl) (by kernel_rfl) ?_
  repeat (go_big_quiet_step (first | (go_at_call 99; exact D.out _ _)))
  refine wpQuiet_nil ?_
  intro _ hw'
  obtain ⟨⟨dq, osq⟩, hw''⟩ := hw'
  subst hw''
  have W5 : Hid (Below W.heap.size W (Go.Sort.grow (redrawn W dq) osq)) := Lib.hid (below_regrown W dq osq)
  clear fl ff fp f0 hl hf hp c0
  generalize Go.Sort.grow (redrawn W dq) osq = w5 at W5 ⊢
  repeat (first | go_skip | go_guarded | go_step | go_upon)
  go_ret
  exact ⟨rfl, W5.out⟩
/-- What Search answers: how many are still false. -/
def SearchPost (q : Nat → Bool) (n : Nat) (w : World) (r : Ending) (w' : World) : Prop :=
  ∃ k : Nat, r = .returned (.int .i64 k) ∧ k ≤ n ∧ (∀ t, t < k → q t = false) ∧ (∀ t, k ≤ t → t < n → q t = true) ∧ Below w.heap.size w w'
set_option maxRecDepth 100000 in
set_option maxHeartbeats 1600000 in
theorem search_any (bl bf bp n : Nat) (q : Nat → Bool) (w : World) (hn : n ≤ 1000)
    (hf : ∀ W i, Below w.heap.size w W → i < n → Calls Tryz.prog 178 #[.int .i64 i, .pointer (some ⟨bl, 0, none⟩), .pointer (some ⟨bf, 0, none⟩), .pointer (some ⟨bp, 0, none⟩)] W fun r w' => r = .returned (.bool (q i)) ∧ Below W.heap.size W w')
    (hm : ∀ a b, a ≤ b → b < n → q a = true → q b = true) :
    Calls Tryz.prog 133 #[.int .i64 n, .func (.func 178) #[] #[.pointer (some ⟨bl, 0, none⟩), .pointer (some ⟨bf, 0, none⟩), .pointer (some ⟨bp, 0, none⟩)]] w (SearchPost q n w) := by
  have eg : ∀ args w, (callFunc 178 args).run Tryz.prog w = .ok (.enter 178 args) w := enters_of Tryz.func178 (by kernel_rfl) rfl
  have HF := Lib.hid hf
  have HM := Lib.hid hm
  clear hf hm
  go_enter Tryz.func133, Tryz.ntmps133
  repeat (first | go_skip | go_guarded | go_step | go_upon)
  go_loopw [5, 6] (fun s5 s6 wr => ∃ lo hi : Nat, s5 = .int .i64 lo ∧ s6 = .int .i64 hi ∧ lo ≤ hi ∧ hi ≤ n ∧ (∀ t, t < lo → q t = false) ∧ (∀ t, hi ≤ t → t < n → q t = true) ∧ Below w.heap.size w wr) (fun s5 s6 _ => (Go.RowKit.intOf s6).toNat - (Go.RowKit.intOf s5).toNat)
  case atStart => exact ⟨0, n, rfl, rfl, Nat.zero_le _, Nat.le_refl _, fun t h => by omega, fun t h1 h2 => by omega, Below.refl _ _⟩
  case round =>
    obtain ⟨lo, hi, rfl, rfl, hlh, hin, hA, hB, hb⟩ := hrel
    have HA := Lib.hid hA
    have HBe := Lib.hid hB
    have HB := Lib.hid hb
    have hbs := hb.size
    clear hA hB hb
    by_cases hlt : lo < hi
    · obtain ⟨m, hm⟩ : ∃ m, (lo + hi) / 2 = m := ⟨_, rfl⟩
      have hmz : ((lo : Int) + (hi : Int)) / 2 = (m : Int) := by omega
      have hmlo : lo ≤ m := by omega
      have hmhi : m < hi := by omega
      have hltz : (lo : Int) < hi := by omega
      have cx := HF.out wr m HB.out (by omega)
      cases hq : q m with
      | false =>
        rw [hq] at cx
        have CX := Lib.hid cx
        have HA2 : Hid (∀ t, t < m + 1 → q t = false) := Lib.hid (fun t ht => by
          cases h : q t with
          | false => rfl
          | true => rw [HM.out t m (by omega) (by omega) h] at hq; cases hq)
        clear hm hlt cx hq
        repeat (first | (go_at_fn 178; refine CX.out.mono ?_; rintro r w1 ⟨rfl, hb⟩; simp only []; have B1 := Lib.hid (Below.trans HB.out (hb.mono hbs)); clear hb) | go_skip | go_guarded | go_step | go_upon)
        exact ⟨⟨m + 1, hi, by go_num, rfl, by omega, by omega, HA2.out, HBe.out, B1.out⟩, by simp [Go.RowKit.intOf]; omega⟩
      | true =>
        rw [hq] at cx
        have CX := Lib.hid cx
        have HB2 : Hid (∀ t, m ≤ t → t < n → q t = true) := Lib.hid (fun t h1 h2 => HM.out m t h1 h2 hq)
        clear hm hlt cx hq
        repeat (first | (go_at_fn 178; refine CX.out.mono ?_; rintro r w1 ⟨rfl, hb⟩; simp only []; have B1 := Lib.hid (Below.trans HB.out (hb.mono hbs)); clear hb) | go_skip | go_guarded | go_step | go_upon)
        exact ⟨⟨lo, m, rfl, rfl, by omega, by omega, HA.out, HB2.out, B1.out⟩, by simp [Go.RowKit.intOf]; omega⟩
    · have hltz : ¬ (lo : Int) < hi := by omega
      obtain rfl : hi = lo := by omega
      clear hlt
      repeat (first | go_skip | go_guarded | go_step | go_upon)
      go_ret
      exact ⟨hi, rfl, hin, HA.out, HBe.out, HB.out⟩
/-- What within answers. -/
def CutPost (ts : List Nd) (p : List UInt8) (w : World) (r : Ending) (w' : World) : Prop :=
  ∃ i j : Nat, r = .returned (.tuple #[.int .i64 i, .int .i64 j]) ∧ Cut ts p i j ∧ Below w.heap.size w w'
theorem cell_box (w : World) (v : Value) (t : TypeId) : (w.alloc (.cells #[v] t)).cell? ⟨w.heap.size, 0, none⟩ = some v := by
  rw [World.cell?_alloc_at _ _ _ _ rfl]; rfl
end TG
end Go.Proofs.YtfbhbadcgecgmaaGreatDoor
