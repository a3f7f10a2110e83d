/- Layer 1: the contracts of name.Name, name.Path, name.Within: what each answers, for every text, in every world in which Go's tables lie. -/
import Derived.Test.YtechekdiadpmoaaGreatDoorQNameAny
import Derived.Test.YtechekdiadpmoaaGreatDoorQBase
import Derived.Shelf.Unicode.ValidAny
import Derived.Shelf.Strings.PiecesUse
set_option linter.all false
set_option maxRecDepth 100000
set_option maxHeartbeats 25600000
namespace Go.Proofs.YtechekdiadpmoaaGreatDoor
open Go.RowKit Go.Lib
namespace NF

def gFirst : Nat := Tryz.laysValid_ren.g 3
def gAcc : Nat := Tryz.laysValid_ren.g 4
/-- What the calls read of Go's own variables: the two tables, and some integer in MaxLen. -/
structure Env (w : World) : Prop where
  tabs : Lib.Utf8Tabs (Tryz.laysValid_ren.g 3) (Tryz.laysValid_ren.g 4) w
  maxl : ∃ m, w.cell? ⟨0, 0, none⟩ = some (.int .i64 m)
theorem Env.below {w w' : World} (h : Env w) (hb : Below w.heap.size w w') : Env w' := by
  refine ⟨Utf8Tabs_below h.tabs hb, ?_⟩
  obtain ⟨m, hm⟩ := h.maxl
  exact ⟨m, by rw [hb.cell (World.block_lt_of_cell? _ _ hm)]; exact hm⟩

def Bad (s : ByteArray) : Prop := s.toList = [] ∨ 64 < s.size ∨ s.toList = [46] ∨ s.toList = [46, 46]
theorem bad_name {s : ByteArray} (h : Bad s) : NP.nameL s.data.toList = false := by
  unfold Bad at h
  rw [Lib.toList_data, Lib.size_eq] at h
  unfold NP.nameL
  rcases h with h | h | h | h
  · rw [h]; rfl
  · rw [decide_eq_false (p := s.data.toList.length ≤ 64) (by omega)]; simp
  · rw [h]; rfl
  · rw [h]; rfl
theorem good_name {s : ByteArray} (h1 : s.toList.isEmpty = false) (h2 : (s.size : Int) ≤ 64) (h3 : (s.toList == [46]) = false) (h4 : (s.toList == [46, 46]) = false) :
    NP.nameL s.data.toList = (Lib.validD s.data.toList && NP.noneOf s.data.toList) := by
  rw [Lib.toList_data] at h1 h3 h4
  rw [Lib.size_eq] at h2
  unfold NP.nameL
  have e1 : s.data.toList ≠ [] := by intro e; rw [e] at h1; simp at h1
  have e2 : s.data.toList.length ≤ 64 := by omega
  have e3 : s.data.toList ≠ [46] := by intro e; rw [e] at h3; simp at h3
  have e4 : s.data.toList ≠ [46, 46] := by intro e; rw [e] at h4; simp at h4
  rw [decide_eq_true e1, decide_eq_true e2, decide_eq_true e3, decide_eq_true e4]
  simp
theorem noneOf_eq (l : List UInt8) : NP.noneOf l = !(Lib.containsAny l [47, 0]) := by
  unfold NP.noneOf Lib.containsAny
  have : (l.contains 47 || l.contains 0) = decide (0 ≤ Lib.indexAny l [47, 0]) := by
    induction l with
    | nil => rfl
    | cons b l ih =>
      have hg := Lib.indexAny_ge [47, 0] l
      rw [Lib.indexAny]
      by_cases hb : ([47, 0] : List UInt8).contains b = true
      · rw [if_pos hb]
        have : b = 47 ∨ b = 0 := by simpa using hb
        rcases this with rfl | rfl <;> simp
      · rw [if_neg hb]
        have hn : ¬ (b = 47) ∧ ¬ (b = 0) := by simpa using hb
        have e1 : (b :: l).contains 47 = l.contains 47 := by simp [Ne.symm hn.1]
        have e2 : (b :: l).contains 0 = l.contains 0 := by simp [Ne.symm hn.2]
        rw [e1, e2, ih]
        by_cases hm : Lib.indexAny l [47, 0] = -1
        · rw [hm]; rfl
        · rw [if_neg (by simpa using hm)]
          rw [decide_eq_true (by omega), decide_eq_true (by omega)]
  rw [this]
def ValidPost (s : ByteArray) (w : World) (e : Ending) (w' : World) : Prop := e = .returned (.bool (Lib.validD s.data.toList)) ∧ Below w.heap.size w w'
theorem valid_any (s : ByteArray) (w : World) (he : Env w) (hs : s.size ≤ 9223372036854775807) :
    Calls Tryz.prog 106 #[.string s] w fun e w' => e = .returned (.bool (Lib.validD s.data.toList)) ∧ Below w.heap.size w w' :=
  Any.utf8_ValidString Tryz.laysValid s w hs he.tabs
set_option maxRecDepth 100000 in
theorem idx_any (s : ByteArray) (w : World) (h : s.size ≤ 64) :
    Calls Tryz.prog 121 #[.string s, .string NA.slz] w (NA.IdxPost s w) := by
  by_cases h8 : s.size ≤ 8
  · exact NA.any_short s w h8
  · have hz : (Tryz.prog.info? 139).map (fun i => (i.zero, i.size)) = some (some (.agg (Array.replicate 256 (.bool false))), 256) := by kernel_rfl
    refine (Any.strings_IndexAny_long Tryz.lays153 (zero_of_info hz).1 (zero_of_info hz).2 s NA.slz w (by decide) (by omega) (by omega) (by decide) ?_).mono ?_
    · intro j b hj
      match j with
      | 0 => simp [NA.slz] at hj; subst hj; decide
      | 1 => simp [NA.slz] at hj; subst hj; decide
      | j + 2 => simp [NA.slz] at hj
    · rintro e w' ⟨rfl, rfl⟩
      exact ⟨rfl, ((Below.refl _ _).alloc (Nat.le_refl _) _).alloc (by simp) _⟩
theorem has_any (s : ByteArray) (w : World) (h : s.size ≤ 64) :
    Calls Tryz.prog 107 #[.string s, .string NA.slz] w fun e w' => e = .returned (.bool (Lib.containsAny s.data.toList [47, 0])) ∧ Below w.heap.size w w' := by
  have c := idx_any s w h
  unfold Lib.containsAny
  go_enter Tryz.func107, Tryz.ntmps107
  go_wp2_with fail
  refine c.mono ?_
  rintro e w' ⟨rfl, hb⟩
  go_wp2
  go_ret
  exact ⟨rfl, hb⟩
set_option maxRecDepth 100000 in
set_option maxHeartbeats 800000 in
theorem name_any (s : ByteArray) (w : World) (he : Env w) (hs : s.size ≤ maxLen) :
    Calls Tryz.prog 89 #[.string s] w fun e w' => e = .returned (.bool (NP.nameL s.data.toList)) ∧ Below w.heap.size w w' := by
  unfold maxLen at hs
  have cV := valid_any s w he hs
  go_enter Tryz.func89, Tryz.ntmps89
  go_wp2_with fail
  · have h : s.toList = [] := by assumption
    go_ret
    exact ⟨by rw [bad_name (.inl h)]; rfl, Below.refl _ _⟩
  · have h : s.toList = [46] := by assumption
    go_ret
    exact ⟨by rw [bad_name (.inr (.inr (.inl h)))]; rfl, Below.refl _ _⟩
  · rename_i h
    have hb : Bad s := by
      unfold Bad
      rcases h with ((h | h) | h) | h
      · exact .inl (by simpa using h)
      · exact .inr (.inl (by omega))
      · exact .inr (.inr (.inl (by simpa using h)))
      · exact .inr (.inr (.inr (by simpa using h)))
    go_ret
    exact ⟨by rw [bad_name hb]; rfl, Below.refl _ _⟩
  · have h : ((s.toList.isEmpty = false ∧ (s.size : Int) ≤ 64) ∧ (s.toList == [46]) = false) ∧ (s.toList == [46, 46]) = false := by assumption
    obtain ⟨⟨⟨h1, h2⟩, h3⟩, h4⟩ := h
    have Hg := Lib.hid (good_name h1 h2 h3 h4)
    have hsz : s.size ≤ 64 := by omega
    clear h1 h3 h4
    refine cV.mono ?_
    rintro e w1 ⟨rfl, hb⟩
    cases hv : Lib.validD s.data.toList
    · have Hv := Lib.hid hv
      clear hv
      go_wp2
      go_ret
      exact ⟨by rw [Hg.out, Hv.out]; rfl, hb⟩
    · have Hv := Lib.hid hv
      clear hv
      have c := has_any s w1 hsz
      clear cV
      go_wp2_with fail
      refine c.mono ?_
      rintro e w2 ⟨rfl, hb2⟩
      go_wp2
      go_ret
      exact ⟨by rw [Hg.out, Hv.out, noneOf_eq]; rfl, hb.trans (hb2.mono hb.size)⟩
  · have h : (64 : Int) < s.size := by assumption
    go_ret
    exact ⟨by rw [bad_name (.inr (.inl (by omega)))]; rfl, Below.refl _ _⟩

/- allNames: of a list of texts that lie in memory -/
theorem all_nil (a : Option Addr) (c : Nat) (w : World) :
    Calls Tryz.prog 70 #[.slice a 0 c] w fun e w' => e = .returned (.bool true) ∧ w = w' := by
  go_enter Tryz.func70, Tryz.ntmps70
  go_wp2
  go_loop [7] (fun i => i = .int .i64 0) (fun _ => 0)
  case atStart => rfl
  case round =>
    subst hrel
    go_wp2
    go_ret
    exact ⟨rfl, rfl⟩
theorem all_snoc {xs : List ByteArray} {k : Nat} {x : ByteArray} (h : NP.allL ((xs.take k).map (·.data.toList)) = true) (hx : xs[k]? = some x) (hn : NP.nameL x.data.toList = true) :
    NP.allL ((xs.take (k + 1)).map (·.data.toList)) = true := by
  rw [List.take_add_one, hx]
  unfold NP.allL at h ⊢
  simp only [Option.toList_some, List.map_append, List.map_cons, List.map_nil, List.all_append, List.all_cons, List.all_nil, h, hn, Bool.and_self]
theorem all_miss {xs : List ByteArray} {k : Nat} {x : ByteArray} (hx : xs[k]? = some x) (hn : NP.nameL x.data.toList = false) : NP.allL (xs.map (·.data.toList)) = false := by
  unfold NP.allL
  rw [List.all_eq_false]
  exact ⟨x.data.toList, List.mem_map.2 ⟨x, List.mem_of_getElem? hx, rfl⟩, by rw [hn]; simp⟩
set_option maxHeartbeats 800000 in
theorem all_any (bk o c : Nat) (xs : List ByteArray) (w : World) (he : Env w) (hcells : ∀ (j : Nat) x, xs[j]? = some x → w.cell? ⟨bk, o + j, none⟩ = some (.string x))
    (hbk : bk < w.heap.size) (hsz : ∀ x ∈ xs, x.size ≤ maxLen) (hlen : xs.length ≤ maxLen) :
    Calls Tryz.prog 70 #[.slice (some ⟨bk, o, none⟩) xs.length c] w fun e w' => e = .returned (.bool (NP.allL (xs.map (·.data.toList)))) ∧ Below w.heap.size w w' := by
  have Hsz := Lib.hid hsz
  have Hc := Lib.hid hcells
  have He := Lib.hid he
  clear hsz hcells he
  unfold maxLen at hlen
  go_enter Tryz.func70, Tryz.ntmps70
  go_wp2
  go_loopw [7] (fun i wr => ∃ k : Nat, k ≤ xs.length ∧ i = .int .i64 k ∧ NP.allL ((xs.take k).map (·.data.toList)) = true ∧ Below w.heap.size w wr) (fun i _ => xs.length - (Go.RowKit.intOf i).toNat)
  case atStart => exact ⟨0, Nat.zero_le _, rfl, rfl, Below.refl _ _⟩
  case round =>
    obtain ⟨k, hk, rfl, ha, hb⟩ := hrel
    have Ha := Lib.hid ha
    have Hb := Lib.hid hb
    clear ha hb
    by_cases hlt : k < xs.length
    · obtain ⟨x, hx⟩ : ∃ x, xs[k]? = some x := ⟨xs[k], List.getElem?_eq_getElem hlt⟩
      have Hx := Lib.hid hx
      have hz : (k : Int) < xs.length := by omega
      have hcell : wr.cell? ⟨bk, o + k, none⟩ = some (.string x) := by
        rw [Hb.out.cell (p := ⟨bk, o + k, none⟩) hbk]; exact Hc.out k x hx
      have cN := name_any x wr (He.out.below Hb.out) (Hsz.out x (List.mem_of_getElem? hx))
      clear hx
      go_wp2_with fail
      refine cN.mono ?_
      rintro e w2 ⟨rfl, hb2⟩
      have Hb2 := Lib.hid (Hb.out.trans (hb2.mono Hb.out.size))
      clear hb2 cN hcell
      cases hn : NP.nameL x.data.toList
      · have Hn := Lib.hid hn
        clear hn
        go_wp2
        go_ret
        exact ⟨by rw [all_miss Hx.out Hn.out]; rfl, Hb2.out⟩
      · have Hn := Lib.hid hn
        clear hn
        go_wp2
        go_roundw
        case rel => exact ⟨k + 1, by omega, by go_num, all_snoc Ha.out Hx.out Hn.out, Hb2.out⟩
        case measure => simp [Go.RowKit.intOf]; omega
    · have hz : ¬ (k : Int) < xs.length := by omega
      have ek : k = xs.length := by omega
      have Hek := Lib.hid ek
      clear ek
      go_wp2
      go_ret
      exact ⟨by have := Ha.out; rw [Hek.out, List.take_length] at this; rw [this]; rfl, Hb.out⟩

/- Path -/
def slash : ByteArray := ⟨#[47]⟩
theorem splitB_le (sep : ByteArray) : ∀ (k : Nat) (s x : ByteArray), x ∈ Lib.splitB sep 0 k s → x.size ≤ s.size
  | 0, s, x, h => by simp [Lib.splitB] at h; subst h; exact Nat.le_refl _
  | k + 1, s, x, h => by
    unfold Lib.splitB at h
    split at h
    · simp at h; subst h; exact Nat.le_refl _
    · rcases List.mem_cons.1 h with rfl | h
      · rw [ByteArray.size_extract]; omega
      · have := splitB_le sep k _ x h
        rw [ByteArray.size_extract] at this
        omega
theorem count_any (s : ByteArray) (w : World) :
    Calls Tryz.prog 69 #[.string s, .string ⟨#[47]⟩] w fun e w' => e = .returned (.int .i64 (s.data.toList.count 47 : Nat)) ∧ w = w' := by
  refine (Tryz.strings_Count_one s 47 w).mono ?_
  rintro e w' ⟨rfl, rfl⟩
  exact ⟨rfl, rfl⟩
/-- The texts lie in block bk, one behind the other, from its head on. -/
structure Lies (bk : Nat) (xs : List ByteArray) (w : World) : Prop where
  cells : ∀ (j : Nat) x, xs[j]? = some x → w.cell? ⟨bk, 0 + j, none⟩ = some (.string x)
  block : bk < w.heap.size
theorem split_any (s : ByteArray) (w : World) (he : Env w) (hs : s.size ≤ 400) :
    Calls Tryz.prog 71 #[.string s, .string ⟨#[47]⟩] w fun e w' => ∃ xs : List ByteArray, e = .returned (.slice (some ⟨w.heap.size, 0, none⟩) xs.length xs.length) ∧
      xs.map (·.data.toList) = Lib.split s.data.toList [47] ∧ (∀ x ∈ xs, x.size ≤ s.size) ∧ xs.length = s.data.toList.count 47 + 1 ∧ Lies w.heap.size xs w' ∧ Below w.heap.size w w' := by
  obtain ⟨m, hm⟩ := he.maxl
  refine (Tryz.strings_Split s ⟨#[47]⟩ m w (by omega) hm (by decide)).mono ?_
  rintro e w' ⟨rfl, rfl⟩
  have hl : (Lib.splitB ⟨#[47]⟩ 0 (Lib.countB s ⟨#[47]⟩) s).length = Lib.countB s ⟨#[47]⟩ + 1 := Lib.splitB_all _ (by decide) 0 _ s rfl
  have hc : Lib.countB s ⟨#[47]⟩ = s.data.toList.count 47 := Lib.count_one 47 s.data.toList
  exact ⟨Lib.splitB ⟨#[47]⟩ 0 (Lib.countB s ⟨#[47]⟩) s, by rw [hl], by rw [Lib.splitB_data]; rfl, fun x hx => splitB_le _ _ _ _ hx, by rw [hl, hc], ⟨pieces_cell w _ 9, pieces_block w _⟩, (Below.refl _ _).alloc (Nat.le_refl _) _⟩
theorem path_parts {s : ByteArray} (h1 : s.size ≤ 400) (h2 : s.data.toList.count 47 < 16) : NP.pathL s.data.toList = NP.allL (Lib.split s.data.toList [47]) := by
  rw [Lib.size_eq] at h1
  unfold NP.pathL
  rw [decide_eq_true h1, decide_eq_true h2]
  simp
theorem path_long {s : ByteArray} (h1 : 400 < s.size) : NP.pathL s.data.toList = false := by
  rw [Lib.size_eq] at h1
  unfold NP.pathL
  rw [decide_eq_false (by omega)]
  simp
theorem path_deep {s : ByteArray} (h1 : 16 ≤ s.data.toList.count 47) : NP.pathL s.data.toList = false := by
  unfold NP.pathL
  rw [decide_eq_false (p := s.data.toList.count 47 < 16) (by omega)]
  simp
set_option maxHeartbeats 800000 in
theorem path_any (s : ByteArray) (w : World) (he : Env w) (hs : s.size ≤ maxLen) :
    Calls Tryz.prog 47 #[.string s] w fun e w' => e = .returned (.bool (NP.pathL s.data.toList)) ∧ Below w.heap.size w w' := by
  unfold maxLen at hs
  have He := Lib.hid he
  clear he
  by_cases h4 : s.size ≤ 400
  · have hz : ¬ (400 : Int) < s.size := by omega
    have hd : decide ((400 : Int) < s.size) = false := decide_eq_false hz
    have cC := count_any s w
    by_cases h16 : s.data.toList.count 47 < 16
    · have Hp := Lib.hid (path_parts h4 h16)
      have h16z : ¬ (16 : Int) ≤ (s.data.toList.count 47 : Nat) := by omega
      have cS := split_any s w He.out h4
      generalize s.data.toList.count 47 = n at cC h16 h16z cS
      go_enter Tryz.func47, Tryz.ntmps47
      go_wp2_with fail
      refine cC.mono ?_
      rintro e w1 ⟨rfl, rfl⟩
      go_wp2_with fail
      refine cS.mono ?_
      rintro e w1 ⟨xs, rfl, hx1, hx2, hx3, hx4, hbl⟩
      have Hx := Lib.hid hx1
      clear hx1 cC cS
      have cA := all_any w.heap.size 0 xs.length xs w1 (He.out.below hbl) hx4.cells hx4.block (fun x hx => by have := hx2 x hx; unfold maxLen; omega) (by unfold maxLen; omega)
      have Hbl := Lib.hid hbl
      clear hbl hx2 hx4 hx3
      go_wp2_with fail
      refine cA.mono ?_
      rintro e w2 ⟨rfl, hb⟩
      have Hb := Lib.hid (Hbl.out.trans (hb.mono Hbl.out.size))
      clear hb cA
      go_wp2
      go_ret
      exact ⟨by rw [Hp.out, ← Hx.out]; rfl, Hb.out⟩
    · have Hp := Lib.hid (path_deep (s := s) (by omega))
      have h16z : (16 : Int) ≤ (s.data.toList.count 47 : Nat) := by omega
      generalize s.data.toList.count 47 = n at cC h16 h16z
      go_enter Tryz.func47, Tryz.ntmps47
      go_wp2_with fail
      refine cC.mono ?_
      rintro e w1 ⟨rfl, rfl⟩
      go_wp2
      go_ret
      exact ⟨by rw [Hp.out]; rfl, Below.refl _ _⟩
  · have Hp := Lib.hid (path_long (s := s) (by omega))
    have hz : (400 : Int) < s.size := by omega
    go_enter Tryz.func47, Tryz.ntmps47
    go_wp2
    go_ret
    exact ⟨by rw [Hp.out]; rfl, Below.refl _ _⟩
end NF
end Go.Proofs.YtechekdiadpmoaaGreatDoor
