/- The document's answer for layer 1: the contracts of the reference's Name, Path, Split, Parent, Base, Texts, for texts of up to 1048576 bytes. -/
import Derived.Test.YtkfddnkeoopfbaaDoorRefParts
import Derived.Test.YtkfddnkeoopfbaaDoorNameSplit
namespace Go.Proofs.YtkfddnkeoopfbaaDoor
open Go.RowKit Go.Lib
namespace RQ
open NF NC RP RN

theorem noneOf_snoc {l : List UInt8} {k : Nat} {x : UInt8} (h : NP.noneOf (l.take k) = true) (hx : l[k]? = some x) (h1 : x ≠ 47) (h2 : x ≠ 0) : NP.noneOf (l.take (k + 1)) = true := by
  rw [List.take_add_one, hx]
  unfold NP.noneOf at h ⊢
  simp only [Bool.not_eq_true', Bool.or_eq_false_iff, Option.toList_some] at h ⊢
  refine ⟨?_, ?_⟩
  · rw [List.contains_append, h.1]; simp [Ne.symm h1]
  · rw [List.contains_append, h.2]; simp [Ne.symm h2]
theorem noneOf_hit {l : List UInt8} {k : Nat} {x : UInt8} (hx : l[k]? = some x) (h : x = 47 ∨ x = 0) : NP.noneOf l = false := by
  unfold NP.noneOf
  have hm := List.mem_of_getElem? hx
  rcases h with rfl | rfl
  · simp [hm]
  · simp [hm]
def RetB (b : Bool) (w : World) (e : Ending) (w' : World) : Prop := e = .returned (.bool b) ∧ w = w'
set_option maxRecDepth 100000 in
set_option maxHeartbeats 800000 in
theorem rname_loop (s : ByteArray) (w : World) (hs : s.size ≤ 64) (h1 : s.toList.isEmpty = false) (h3 : (s.toList == [46]) = false) (h4 : (s.toList == [46, 46]) = false) :
    Calls Tryd.prog 33 #[.string s] w (RetB (NP.nameL s.data.toList) w) := by
  have Hg := Lib.hid (good_name h1 (by omega) h3 h4)
  have hp : 0 < s.size := by
    rw [Lib.size_eq, ← Lib.toList_data]
    apply List.length_pos_iff.2
    intro e; rw [e] at h1; simp at h1
  have hz1 : ¬ (s.size : Int) < 1 := by omega
  have hd1 : decide ((s.size : Int) < 1) = false := decide_eq_false hz1
  have hz2 : ¬ (64 : Int) < s.size := by omega
  have hd2 : decide ((64 : Int) < s.size) = false := decide_eq_false hz2
  have cV := valid_ref s w (by omega)
  clear hp h1
  cases hv : Lib.validD s.data.toList
  · have Hv := Lib.hid hv
    rw [hv] at cV
    clear hv
    go_enter Tryd.func33, Tryd.ntmps33
    go_wp2_with (go_at_call 42; refine cV.mono ?_; rintro e w' ⟨rfl, rfl⟩)
    go_ret
    exact ⟨by rw [Hg.out, Hv.out]; rfl, rfl⟩
  · have Hv := Lib.hid hv
    rw [hv] at cV
    clear hv
    go_enter Tryd.func33, Tryd.ntmps33
    go_wp2_with (go_at_call 42; refine cV.mono ?_; rintro e w' ⟨rfl, rfl⟩)
    go_loop [3] (fun i => ∃ k : Nat, k ≤ s.size ∧ i = .int .i64 k ∧ NP.noneOf (s.data.toList.take k) = true) (fun i => s.size - (Go.RowKit.intOf i).toNat)
    case atStart => exact ⟨0, Nat.zero_le _, rfl, rfl⟩
    case round =>
      obtain ⟨k, hk, rfl, hn⟩ := hrel
      have HN := Lib.hid hn
      clear hn
      by_cases hlt : k < s.size
      · have hz : (k : Int) < s.size := by omega
        have Hx := Lib.hid (Lib.data_getElem? s k hlt)
        by_cases hx0 : s[k] = 0
        · have hb : ((((s[k]).toNat : Nat) : Int) == 0) = true := by rw [hx0]; rfl
          have HF := Lib.hid (noneOf_hit Hx.out (.inr hx0))
          clear hx0
          go_wp2
          go_ret
          exact ⟨by rw [Hg.out, HF.out]; simp, rfl⟩
        · have hb : ((((s[k]).toNat : Nat) : Int) == 0) = false := by
            apply beq_eq_false_iff_ne.2
            intro e; apply hx0; apply UInt8.toNat_inj.1; show _ = 0; omega
          by_cases hx7 : s[k] = 47
          · have hb2 : ((((s[k]).toNat : Nat) : Int) == 47) = true := by rw [hx7]; rfl
            have HF := Lib.hid (noneOf_hit Hx.out (.inl hx7))
            clear hx0 hx7
            go_wp2
            go_ret
            exact ⟨by rw [Hg.out, HF.out]; simp, rfl⟩
          · have hb2 : ((((s[k]).toNat : Nat) : Int) == 47) = false := by
              apply beq_eq_false_iff_ne.2
              intro e; apply hx7; apply UInt8.toNat_inj.1; show _ = 47; omega
            have HF := Lib.hid (noneOf_snoc HN.out Hx.out hx7 hx0)
            clear hx0 hx7
            go_wp2
            go_round
            case rel => exact ⟨k + 1, by omega, by go_num, HF.out⟩
            case measure => simp [Go.RowKit.intOf]; omega
      · have hz : ¬ (k : Int) < s.size := by omega
        have HF : Hid (NP.noneOf s.data.toList = true) := Lib.hid (by have := HN.out; rw [List.take_of_length_le (by rw [← Lib.size_eq]; omega)] at this; exact this)
        go_wp2
        go_ret
        exact ⟨by rw [Hg.out, HF.out, Hv.out]; rfl, rfl⟩
set_option maxRecDepth 100000 in
set_option maxHeartbeats 800000 in
theorem rname_any (s : ByteArray) (w : World) (hs : s.size ≤ 4611686018427387904) :
    Calls Tryd.prog 33 #[.string s] w (RetB (NP.nameL s.data.toList) w) := by
  by_cases h0 : s.toList = []
  · have HF := Lib.hid (bad_name (s := s) (.inl h0))
    have hz : (s.size : Int) < 1 := by
      have e : s.size = 0 := by rw [Lib.size_eq, ← Lib.toList_data, h0]; rfl
      omega
    clear h0
    go_enter Tryd.func33, Tryd.ntmps33
    go_wp2
    go_ret
    exact ⟨by rw [HF.out]; rfl, rfl⟩
  · have h1 : s.toList.isEmpty = false := by simpa using h0
    have hp : 0 < s.size := by
      rw [Lib.size_eq, ← Lib.toList_data]
      exact List.length_pos_iff.2 h0
    have hz1 : ¬ (s.size : Int) < 1 := by omega
    have hd1 : decide ((s.size : Int) < 1) = false := decide_eq_false hz1
    by_cases h2 : s.size ≤ 64
    · by_cases h3 : s.toList = [46]
      · have HF := Lib.hid (bad_name (s := s) (.inr (.inr (.inl h3))))
        have hz2 : ¬ (64 : Int) < s.size := by omega
        have hd2 : decide ((64 : Int) < s.size) = false := decide_eq_false hz2
        have hb : (s.toList == [46]) = true := by rw [h3]; rfl
        clear h0
        go_enter Tryd.func33, Tryd.ntmps33
        go_wp2
        go_ret
        exact ⟨by rw [HF.out]; rfl, rfl⟩
      · have hb3 : (s.toList == [46]) = false := by simpa using h3
        by_cases h4 : s.toList = [46, 46]
        · have HF := Lib.hid (bad_name (s := s) (.inr (.inr (.inr h4))))
          have hz2 : ¬ (64 : Int) < s.size := by omega
          have hd2 : decide ((64 : Int) < s.size) = false := decide_eq_false hz2
          have hb : (s.toList == [46, 46]) = true := by rw [h4]; rfl
          clear h0 h3 h4
          go_enter Tryd.func33, Tryd.ntmps33
          go_wp2
          go_ret
          exact ⟨by rw [HF.out]; rfl, rfl⟩
        · exact rname_loop s w h2 h1 hb3 (by simpa using h4)
    · have HF := Lib.hid (bad_name (s := s) (.inr (.inl (by omega))))
      have hz2 : (64 : Int) < s.size := by omega
      clear h0
      go_enter Tryd.func33, Tryd.ntmps33
      go_wp2
      go_ret
      exact ⟨by rw [HF.out]; rfl, rfl⟩

/- Path -/
theorem path_few {l : List UInt8} (h : (NP.cutOn l).length ≤ 16) (h4 : l.length ≤ 400) : NP.pathL l = NP.allL (NP.cutOn l) := by
  have hc := NP.cutOn_length l
  unfold NP.pathL
  rw [decide_eq_true h4, decide_eq_true (by omega), NP.split_eq]
  simp
theorem path_many {l : List UInt8} (h : 16 < (NP.cutOn l).length) : NP.pathL l = false := by
  have hc := NP.cutOn_length l
  unfold NP.pathL
  rw [decide_eq_false (p := l.count 47 < 16) (by omega)]
  simp
set_option maxRecDepth 100000 in
set_option maxHeartbeats 1600000 in
theorem rpath_any (s : ByteArray) (w : World) (hs : s.size ≤ 1048576) :
    Calls Tryd.prog 16 #[.string s] w fun e w' => e = .returned (.bool (NP.pathL s.data.toList)) ∧ Below w.heap.size w w' := by
  have cP := parts_any s w hs
  go_enter Tryd.func16, Tryd.ntmps16
  go_wp2_with fail
  refine cP.mono ?_
  rintro e w1 ⟨bk, c, xs, rfl, hc, hx, hsz, hl, hbk, hb⟩
  have Hx := Lib.hid hx
  have Hsz := Lib.hid hsz
  have Hl := Lib.hid hl
  have Hb := Lib.hid hb
  have hxl : xs.length = (NP.cutOn s.data.toList).length := by rw [← hx, List.length_map]
  have hcl := NP.cutOn_length s.data.toList
  have hct : s.data.toList.count 47 ≤ s.data.toList.length := List.count_le_length
  have hle : xs.length ≤ 1048577 := by rw [Lib.size_eq] at hs; omega
  have Hxl := Lib.hid hxl
  clear hx hsz hl hb cP hcl hct hxl
  by_cases h4 : s.size ≤ 400
  · have hz4 : ¬ (400 : Int) < s.size := by omega
    have hd4 : decide ((400 : Int) < s.size) = false := decide_eq_false hz4
    by_cases h16 : xs.length ≤ 16
    · have hz16 : ¬ (16 : Int) < xs.length := by omega
      have hd16 : decide ((16 : Int) < xs.length) = false := decide_eq_false hz16
      have HP := Lib.hid (path_few (l := s.data.toList) (by rw [← Hxl.out]; exact h16) (by rw [← Lib.size_eq]; exact h4))
      go_wp2
      go_loop [4] (fun i => ∃ k : Nat, k ≤ xs.length ∧ i = .int .i64 k ∧ NP.allL ((xs.take k).map (·.data.toList)) = true) (fun i => xs.length - (Go.RowKit.intOf i).toNat)
      case atStart => exact ⟨0, Nat.zero_le _, rfl, rfl⟩
      case round =>
        obtain ⟨k, hk, rfl, ha⟩ := hrel
        have Ha := Lib.hid ha
        clear ha
        by_cases hlt : k < xs.length
        · obtain ⟨x, hx⟩ : ∃ x, xs[k]? = some x := ⟨xs[k], List.getElem?_eq_getElem hlt⟩
          have hz : (k : Int) < xs.length := by omega
          have hcell : w1.cell? ⟨bk, k, none⟩ = some (.string x) := by have := Hl.out.cells k x hx; rw [Nat.zero_add] at this; exact this
          have cN := rname_any x w1 (by have := Hsz.out x (List.mem_of_getElem? hx); omega)
          have HX := Lib.hid hx
          clear hx
          cases hn : NP.nameL x.data.toList
          · rw [hn] at cN
            have HM := Lib.hid (all_miss HX.out hn)
            clear hn
            go_wp2_with (go_at_call 33; refine cN.mono ?_; rintro e w' ⟨rfl, rfl⟩)
            go_ret
            exact ⟨by rw [HP.out, ← Hx.out, HM.out]; rfl, Hb.out⟩
          · rw [hn] at cN
            have HM := Lib.hid (all_snoc Ha.out HX.out hn)
            clear hn
            go_wp2_with (go_at_call 33; refine cN.mono ?_; rintro e w' ⟨rfl, rfl⟩)
            go_round
            case rel => exact ⟨k + 1, by omega, by go_num, HM.out⟩
            case measure => simp [Go.RowKit.intOf]; omega
        · have hz : ¬ (k : Int) < xs.length := by omega
          have HM : Hid (NP.allL (xs.map (·.data.toList)) = true) := Lib.hid (by have := Ha.out; rw [List.take_of_length_le (by omega)] at this; exact this)
          go_wp2
          go_ret
          exact ⟨by rw [HP.out, ← Hx.out, HM.out]; rfl, Hb.out⟩
    · have hz16 : (16 : Int) < xs.length := by omega
      have HP := Lib.hid (path_many (l := s.data.toList) (by rw [← Hxl.out]; omega))
      go_wp2
      go_ret
      exact ⟨by rw [HP.out]; rfl, Hb.out⟩
  · have hz4 : (400 : Int) < s.size := by omega
    have HP := Lib.hid (path_long (s := s) (by omega))
    go_wp2
    go_ret
    exact ⟨by rw [HP.out]; rfl, Hb.out⟩

/- Split -/
theorem rsplit_no (s : ByteArray) (w : World) (hs : s.size ≤ 1048576) (hp : NP.pathL s.data.toList = false) :
    Calls Tryd.prog 35 #[.string s] w fun e w' => e = .returned (.slice none 0 0) ∧ Below w.heap.size w w' := by
  have cP := rpath_any s w hs
  rw [hp] at cP
  clear hp
  go_enter Tryd.func35, Tryd.ntmps35
  go_wp2_with fail
  refine cP.mono ?_
  rintro e w1 ⟨rfl, hb⟩
  go_wp2
  go_ret
  exact ⟨rfl, hb⟩
theorem rsplit_yes (s : ByteArray) (w : World) (hs : s.size ≤ 1048576) (hp : NP.pathL s.data.toList = true) :
    Calls Tryd.prog 35 #[.string s] w (PartsPost s w) := by
  have cP := rpath_any s w hs
  rw [hp] at cP
  clear hp
  go_enter Tryd.func35, Tryd.ntmps35
  go_wp2_with fail
  refine cP.mono ?_
  rintro e w1 ⟨rfl, hb⟩
  have cQ := parts_any s w1 hs
  have Hb := Lib.hid hb
  clear hb cP
  go_wp2_with fail
  refine cQ.mono ?_
  rintro e w2 ⟨bk, c, xs, rfl, hc, hx, hsz, hl, hbk, hb2⟩
  have H : Hid (PartsPost s w (.returned (.slice (some ⟨bk, 0, none⟩) xs.length c)) w2) := Lib.hid ⟨bk, c, xs, rfl, hc, hx, hsz, hl, Nat.le_trans Hb.out.size hbk, Hb.out.trans (hb2.mono Hb.out.size)⟩
  clear hc hx hsz hl hbk hb2 cQ
  go_wp2
  go_ret
  exact H.out
end RQ
end Go.Proofs.YtkfddnkeoopfbaaDoor
