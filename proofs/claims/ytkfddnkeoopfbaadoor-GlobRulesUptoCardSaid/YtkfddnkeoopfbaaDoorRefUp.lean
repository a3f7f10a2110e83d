/- The document's answer for layer 1: the contracts of the reference's Parent and Base, for texts of up to 1048576 bytes. -/
import Derived.Test.YtkfddnkeoopfbaaDoorRefPath
namespace Go.Proofs.YtkfddnkeoopfbaaDoor
open Go.RowKit Go.Lib
namespace RT
open NF NC RP RN RQ

/-- The last of the parts is what stands behind the last slash. -/
theorem last_part (l : List UInt8) : (NP.cutOn l).getLast? = some (NP.lastL l) := by
  rcases NP.parts l with h | ⟨u, t, rfl, h⟩
  · rw [NP.cutOn_none h, NP.lastL_none h]; rfl
  · rw [NP.cutOn_snoc h, NP.lastL_snoc h]; simp

theorem lies_last {s : ByteArray} {xs : List ByteArray} {bk n : Nat} {w : World} (h : xs.map (·.data.toList) = NP.cutOn s.data.toList) (hn : xs.length = n + 1) (hl : Lies bk xs w) :
    ∃ v : ByteArray, v.data.toList = NP.lastL s.data.toList ∧ w.cell? ⟨bk, n, none⟩ = some (.string v) ∧ v ∈ xs := by
  obtain ⟨x, hx⟩ : ∃ x, xs[n]? = some x := ⟨xs[n]'(by omega), List.getElem?_eq_getElem _⟩
  have h1 := last_part s.data.toList
  rw [← h, List.getLast?_map, List.getLast?_eq_getElem?, hn, Nat.add_sub_cancel, hx] at h1
  have := hl.cells n x hx
  rw [Nat.zero_add] at this
  exact ⟨x, by simpa using h1, this, List.mem_of_getElem? hx⟩
theorem up_take (l : List UInt8) (h : 2 ≤ (NP.cutOn l).length) : (NP.lastL l).length + 1 ≤ l.length ∧ NP.upL l = l.take (l.length - (NP.lastL l).length - 1) := by
  rcases NP.parts l with h0 | ⟨u, t, rfl, h0⟩
  · rw [NP.cutOn_none h0] at h; simp at h
  · rw [NP.lastL_snoc h0, NP.upL_snoc h0]
    have e : (u ++ 47 :: t).length - t.length - 1 = u.length := by simp; omega
    rw [e]
    exact ⟨by simp, by simp⟩
theorem up_one (l : List UInt8) (h : (NP.cutOn l).length < 2) : NP.upL l = [] := by
  have := NP.cutOn_length l
  apply NP.upL_none
  intro hm
  have := List.count_pos_iff.2 hm
  omega
set_option maxRecDepth 100000 in
set_option maxHeartbeats 1600000 in
theorem rparent_any (s : ByteArray) (w : World) (hs : s.size ≤ 1048576) :
    Calls Tryd.prog 24 #[.string s] w (TextPost (NP.parentL s.data.toList) w) := by
  cases hp : NP.pathL s.data.toList
  · have Hf : Hid (NP.parentL s.data.toList = []) := Lib.hid (by unfold NP.parentL; rw [hp]; rfl)
    have cS := rsplit_no s w hs hp
    clear hp
    go_enter Tryd.func24, Tryd.ntmps24
    go_wp2_with fail
    refine cS.mono ?_
    rintro e w1 ⟨rfl, hb⟩
    go_wp2
    go_ret
    exact ⟨_, rfl, by rw [Hf.out], hb⟩
  · have Hf : Hid (NP.parentL s.data.toList = NP.upL s.data.toList) := Lib.hid (by unfold NP.parentL; rw [hp]; rfl)
    have cS := rsplit_yes s w hs hp
    clear hp
    go_enter Tryd.func24, Tryd.ntmps24
    go_wp2_with fail
    refine cS.mono ?_
    rintro e w1 ⟨bk, c, xs, rfl, hc, hx, hsz, hl, hbk, hb⟩
    have hxl : xs.length = (NP.cutOn s.data.toList).length := by rw [← hx, List.length_map]
    have hcl := NP.cutOn_length s.data.toList
    have hct : s.data.toList.count 47 ≤ s.data.toList.length := List.count_le_length
    have hle : xs.length ≤ 1048577 := by rw [Lib.size_eq] at hs; omega
    by_cases h2 : 2 ≤ xs.length
    · obtain ⟨n, hn⟩ : ∃ n, xs.length = n + 1 := ⟨xs.length - 1, by omega⟩
      obtain ⟨v, hv, hcell, hmem⟩ := lies_last hx hn hl
      obtain ⟨hu1, hu2⟩ := up_take s.data.toList (by omega)
      rw [← hv, ← Lib.size_eq, ← Lib.size_eq] at hu1 hu2
      have Hu := Lib.hid hu2
      have hvz : (v.size : Int) + 1 ≤ s.size := by omega
      have hnz : ¬ ((n : Int) + 1 < 2) := by omega
      have hn9 : (n : Int) ≤ 1048577 := by omega
      obtain ⟨m, hm⟩ : ∃ m : Nat, s.size = m + v.size + 1 := ⟨s.size - v.size - 1, by omega⟩
      have hmz : (s.size : Int) - v.size - 1 = m := by omega
      have Hm : Hid (m = s.size - v.size - 1) := Lib.hid (by omega)
      have hm1 : (m : Int) ≤ s.size := by omega
      rw [hn]
      have Hmz := Lib.hid hmz
      clear hn hx hsz hl hbk hxl hcl hct hu2 hu1 hmem hv hm hmz cS
      go_wp2_with fail
      go_ret
      refine ⟨_, rfl, ?_, hb⟩
      rw [Hf.out, Hu.out, ← extract_to]
    · have hnz : (xs.length : Int) < 2 := by omega
      have Hu := Lib.hid (up_one s.data.toList (by omega))
      clear hx hsz hl hbk hxl hcl hct cS
      go_wp2
      go_ret
      exact ⟨_, rfl, by rw [Hf.out, Hu.out], hb⟩

end RT
end Go.Proofs.YtkfddnkeoopfbaaDoor
