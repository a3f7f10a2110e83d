/- Layer 4, for layer 14: the contract of the document's Sums. -/
import Derived.Test.YtmpmmebmhffaeaaDoorQHashRsum
import Derived.Test.YtmpmmebmhffaeaaDoorQDla
import Derived.Lib.AppendZeros
set_option linter.all false
set_option maxRecDepth 100000
set_option maxHeartbeats 25600000
namespace Go.Proofs.YtmpmmebmhffaeaaDoor
open Go.RowKit Go.Lib Go.BigFrame
namespace HX
open HP HS HR

/-- A list of texts, as it lies. -/
def LayT (w : World) (ao : Option Addr) (ls : List ByteArray) : Prop :=
  0 < ls.length → ∃ g o, ao = some ⟨g, o, none⟩ ∧ g < w.heap.size ∧ ∀ k x, ls[k]? = some x → w.cell? ⟨g, o + k, none⟩ = some (.string x)
theorem LayT.below {w W : World} {ao : Option Addr} {ls : List ByteArray} (h : LayT w ao ls) (hb : Below w.heap.size w W) : LayT W ao ls := fun h0 => by
  obtain ⟨g, o, e, hg, hc⟩ := h h0
  exact ⟨g, o, e, Nat.lt_of_lt_of_le hg hb.size, fun k x hk => (hb.cell (p := ⟨g, o + k, none⟩) hg).trans (hc k x hk)⟩
def shaS (s : ByteArray) : Value := .string ⟨(shaL s.data.toList).toArray⟩
theorem infoS : (Tryd.prog.info? 9).map (fun i => (i.zero, i.size, i.bytes)) = some (some (.string ByteArray.empty), 1, 16) := by kernel_rfl
theorem text_step {W : World} {vs : List Value} {s : ByteArray} {base m : Nat} {u : Value} (h : W.ownsRow base 9 1 u m vs) (hl : m ≤ 8388608) (hb : base ≤ W.heap.size) :
    ∃ a' c' W3, (Builtin.append_ #[54, 54] 54 #[u, .slice (some ⟨W.heap.size, 0, none⟩) 1 1]).run Tryd.prog (W.alloc (.cells #[.string s] 9)) = .ok (.slice a' (m + 1) c') W3 ∧ W3.ownsRow base 9 1 (.slice a' (m + 1) c') (m + 1) (vs ++ [.string s]) ∧ FP.Out (fun k => u.ownBlock = some k) W W3 := by
  obtain ⟨i0, hi, hz0, hz1, hz2⟩ := HR.info_parts (t := 9) infoS
  have o2 := World.ownsRow.alloc h (.cells #[.string s] 9)
  have hnew : ∀ (j : Nat) (v : Value), [Value.string s][j]? = some v → (W.alloc (.cells #[.string s] 9)).cell? ((⟨W.heap.size, 0, none⟩ : Addr).add j) = some v := by
    intro j v hj
    have h0 := heap_alloc_new W (.cells #[.string s] 9)
    have hadd : (⟨W.heap.size, 0, none⟩ : Addr).add j = ⟨W.heap.size, j, none⟩ := by unfold Addr.add; split <;> simp_all
    have e : (#[Value.string s] : Array Value) = [Value.string s].toArray := rfl
    rw [hadd, cell_of_row _ _ j _ _ _ h0, e, List.getElem?_toArray]
    exact hj
  obtain ⟨v', W3, hr, ho, hg, _⟩ := run_append_own (P := Tryd.prog) (w := W.alloc (.cells #[.string s] 9)) base 54 54 9 i0 (.string ByteArray.empty) 1 16 Tryd.underlying54 hi hz0 hz1 hz2 rfl (by decide) u m _ o2 ⟨W.heap.size, 0, none⟩ 1 1
    [.string s] rfl hnew (fun x hx => by simp at hx; subst hx; rfl) (by unfold maxLen; omega) (by omega) (by rw [World.size_alloc]; omega)
  obtain ⟨a', c', hv', _⟩ := OM.owns_view ho
  subst hv'
  exact ⟨a', c', W3, hr, ho, ((FP.Out.refl _ W).alloc _).grown hg (fun j hj _ => hj)⟩
def SInv (w : World) (ls : List ByteArray) (s4 s5 : Value) (wr : World) : Prop :=
  ∃ (k : Nat) (a1 : Option Addr) (c1 : Nat), s5 = .int .i64 k ∧ s4 = .slice a1 k c1 ∧ k ≤ ls.length ∧ wr.ownsRow w.heap.size 9 1 (.slice a1 k c1) k ((ls.take k).map shaS) ∧ Below w.heap.size w wr
set_option maxRecDepth 100000 in
set_option maxHeartbeats 6400000 in
theorem rsums_any (ls : List ByteArray) (ao : Option Addr) (ca : Nat) (w : World) (hL : LayT w ao ls) (hn : ls.length ≤ 100000) (hs : ∀ s ∈ ls, s.size ≤ 400) :
    Calls Tryd.prog 20 #[.slice ao ls.length ca] w fun r w' => ∃ v, r = .returned v ∧ w'.ownsRow w.heap.size 9 1 v ls.length (ls.map shaS) ∧ Below w.heap.size w w' := by
  obtain ⟨n, hnn⟩ : ∃ n, ls.length = n := ⟨_, rfl⟩
  have HN := Lib.hid hnn
  have HL := Lib.hid hL
  have HS := Lib.hid hs
  rw [hnn] at hn ⊢
  have hnz : (n : Int) ≤ 100000 := by omega
  clear hL hs hnn
  go_enter Tryd.func20, Tryd.ntmps20
  repeat (first | (go_at_call 32; fail) | go_skip | go_guarded | go_step | go_upon)
  refine (rtable_any w).mono ?_
  rintro r w1 ⟨vh, vk, rfl, hh, hk, hb⟩
  simp only []
  have HH := Lib.hid hh
  have HK := Lib.hid hk
  have HB := Lib.hid hb
  clear hh hk hb
  repeat (first | go_skip | go_guarded | go_step | go_upon)
  go_loopw [5, 6] (fun s4 s5 wr => SInv w1 ls s4 s5 wr) (fun _ s5 _ => n - (Go.RowKit.intOf s5).toNat)
  case atStart => exact ⟨0, none, 0, rfl, rfl, Nat.zero_le _, World.ownsRow_nil _ _ _ _, Below.refl _ _⟩
  case round =>
    obtain ⟨k, a1, c1, rfl, rfl, hk, hown, hb1⟩ := hrel
    have HO := Lib.hid hown
    have HB1 := Lib.hid hb1
    have HB2 := Lib.hid (HB.out.trans (hb1.mono HB.out.size))
    clear hown hb1
    rw [HN.out] at hk
    by_cases hlt : k < n
    · have hkz : (k : Int) < n := by omega
      obtain ⟨g, o, rfl, hg, hcell⟩ := (HL.out.below HB2.out) (by rw [HN.out]; omega)
      obtain ⟨x, hx⟩ : ∃ x, ls[k]? = some x := ⟨ls[k]'(by rw [HN.out]; exact hlt), List.getElem?_eq_getElem _⟩
      have c0 := hcell k x hx
      have HX := Lib.hid hx
      have CS : Hid (∀ W, Below w1.heap.size w1 W → Calls Tryd.prog 33 #[.string x, vh, vk] W fun r w' => r = .returned (shaS x) ∧ Below W.heap.size W w') := Lib.hid (fun W hW => rsum_any x vh vk W (HS.out x (List.mem_of_getElem? hx)) (HH.out.below hW) (HK.out.below hW))
      clear hcell hx hlt
      repeat (first | (go_at_call 33; fail) | go_skip | go_guarded | go_step | go_upon)
      refine (CS.out _ HB1.out).mono ?_
      rintro r w3 ⟨rfl, hb3⟩
      simp only []
      unfold shaS
      have HO3 := Lib.hid (OM.owns_below HO.out hb3)
      have HB13 := Lib.hid (HB1.out.trans (hb3.mono HB1.out.size))
      obtain ⟨ap, cp, W4, hrun, hown, hout⟩ := text_step (s := ⟨(shaL x.data.toList).toArray⟩) HO3.out (by omega) HB13.out.size
      have HOwn := Lib.hid hown
      have HOut := Lib.hid hout
      clear hb3 hown hout
      repeat (first | (at_builtin; refine wpList_append_run _ rfl _ _ _ _ rfl _ _ rfl rfl _ _ hrun ?_) | go_skip | go_guarded | go_step | go_upon)
      exact ⟨⟨k + 1, ap, cp, by go_num, rfl, by rw [HN.out]; omega, by rw [List.take_add_one, HX.out, Option.toList_some, List.map_append]; exact HOwn.out, ((FP.Out.of_below HB13.out).then HOut.out (fun j hj e => (HO3.out.lt j e).1)).below (fun j hj _ hn => by omega) (Nat.le_refl _)⟩, by simp [Go.RowKit.intOf]; omega⟩
    · have hkz : ¬ (k : Int) < n := by omega
      have hkn : k = n := by omega
      subst hkn
      clear hlt
      repeat (first | go_skip | go_guarded | go_step | go_upon)
      go_ret
      refine ⟨_, rfl, ?_, HB2.out⟩
      have := OM.owns_base HO.out w.heap.size HB.out.size
      rw [List.take_of_length_le (by rw [HN.out]; exact Nat.le_refl _)] at this
      exact this
end HX
end Go.Proofs.YtmpmmebmhffaeaaDoor
