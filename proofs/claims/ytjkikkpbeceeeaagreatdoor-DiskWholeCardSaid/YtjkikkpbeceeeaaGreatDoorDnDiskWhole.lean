/- DiskWhole answers true for every two texts and every fate. Condition: Go's two tables utf8.first and utf8.acceptRanges lie as Go's text lays them (tied to that text). -/
import Derived.Test.YtjkikkpbeceeeaaGreatDoorMg4
import Derived.Test.YtjkikkpbeceeeaaGreatDoorDkArg
import Derived.Test.YtjkikkpbeceeeaaGreatDoorKit
import Derived.Test.YtjkikkpbeceeeaaGreatDoorCards
import Derived.Test.YtjkikkpbeceeeaaGreatDoorTie
section
/- Layer 7 over lists: a file that is written beside, synced, and put in the place of another one. -/
namespace Go.Proofs.YtjkikkpbeceeeaaGreatDoor
open Go.RowKit Go.Lib Go.BigFrame
namespace DG
open OM TP TM DP DM TG TR FP

/-- A step of a disk that is on, without edits, with one fate: a crash. -/
theorem step_one (D : Dk) (c : Did) (at_ keep torn : Int) (h0 : D.off = false) (h1 : D.edits = []) (h2 : D.fates = [⟨at_, 3, keep, torn⟩]) :
    stepD D c = if at_ = (D.trace.length : Int) then (crashD { D with clock := D.clock + 1, trace := D.trace ++ [c] } keep torn, 75) else ({ D with clock := D.clock + 1, trace := D.trace ++ [c] }, 0) := by
  have hb : begunD D c = { D with clock := D.clock + 1, trace := D.trace ++ [c] } := by
    unfold begunD
    rw [h1]
    rfl
  have hf : fateD (begunD D c) = if at_ = (D.trace.length : Int) then ⟨at_, 3, keep, torn⟩ else fateZ := by
    rw [hb]
    unfold fateD fateOf
    show ((D.fates.find? _).getD fateZ) = _
    rw [h2, List.length_append, List.length_singleton, show ((D.trace.length + 1 : Nat) : Int) - 1 = (D.trace.length : Int) by omega]
    by_cases h : at_ = (D.trace.length : Int)
    · rw [if_pos h, List.find?_cons_of_pos (by simpa using h)]
      rfl
    · rw [if_neg h, List.find?_cons_of_neg (by simpa using h)]
      rfl
  unfold stepD
  rw [if_neg (by rw [h0]; simp), hf, hb]
  by_cases h : at_ = (D.trace.length : Int)
  · rw [if_pos h, if_pos h, if_pos rfl]
  · rw [if_neg h, if_neg h, if_neg (by decide), if_neg (by decide)]
/-- A step of a disk that is on, without edits and fates. -/
theorem step_calm (D : Dk) (c : Did) (h0 : D.off = false) (h1 : D.edits = []) (h2 : D.fates = []) : stepD D c = ({ D with clock := D.clock + 1, trace := D.trace ++ [c] }, 0) := by
  have hb : begunD D c = { D with clock := D.clock + 1, trace := D.trace ++ [c] } := by
    unfold begunD
    rw [h1]
    rfl
  have hf : fateD (begunD D c) = fateZ := by
    rw [hb]
    unfold fateD fateOf
    show ((D.fates.find? _).getD fateZ) = _
    rw [h2]
    rfl
  unfold stepD
  rw [if_neg (by rw [h0]; simp), hf, hb, if_neg (by decide), if_neg (by decide)]
section
variable (old dt : List UInt8) (at_ keep torn : Int)
def whF : List Fate := [⟨at_, 3, keep, torn⟩]
def wh1 : Dk := bootD (newD [⟨[102], 1, old, 0⟩]) (whF at_ keep torn) []
def whT1 : List Did := [⟨cWrite, [103], []⟩]
def whT2 : List Did := [⟨cWrite, [103], []⟩, ⟨cSync, [103], []⟩]
def whT3 : List Did := [⟨cWrite, [103], []⟩, ⟨cSync, [103], []⟩, ⟨cReplace, [103], [102]⟩]
def whT4 : List Did := [⟨cWrite, [103], []⟩, ⟨cSync, [103], []⟩, ⟨cReplace, [103], [102]⟩, ⟨cFlush, [], []⟩]
def whI (d : Bool) : List Ino := [⟨0, 1, 0, old, false⟩, ⟨1, 1, 0, dt, d⟩]
def wh1c : Dk := ⟨[en [102] 1], [en [102] 1], [], [⟨0, 1, 0, old, false⟩], false, 1, whT1, whF at_ keep torn, []⟩
def wh2 : Dk := ⟨[en [102] 1, en [103] 2], [en [102] 1], [[en [102] 1, en [103] 2]], whI old dt true, false, 1, whT1, whF at_ keep torn, []⟩
def wh2c : Dk := ⟨[en [102] 1, en [103] 2], [en [102] 1], [[en [102] 1, en [103] 2]], whI old dt true, false, 2, whT2, whF at_ keep torn, []⟩
def wh3 : Dk := ⟨[en [102] 1, en [103] 2], [en [102] 1], [[en [102] 1, en [103] 2]], whI old dt false, false, 2, whT2, whF at_ keep torn, []⟩
def wh3c : Dk := ⟨[en [102] 1, en [103] 2], [en [102] 1], [[en [102] 1, en [103] 2]], whI old dt false, false, 3, whT3, whF at_ keep torn, []⟩
def wh4 : Dk := ⟨[en [102] 2], [en [102] 1], [[en [102] 1, en [103] 2], [en [102] 2]], whI old dt false, false, 3, whT3, whF at_ keep torn, []⟩
def wh4c : Dk := ⟨[en [102] 2], [en [102] 1], [[en [102] 1, en [103] 2], [en [102] 2]], whI old dt false, false, 4, whT4, whF at_ keep torn, []⟩
def wh5 : Dk := ⟨[en [102] 2], [en [102] 2], [], whI old dt false, false, 4, whT4, whF at_ keep torn, []⟩
theorem wh_fate (h : at_ ≠ 0) : fateD (wh1c old at_ keep torn) = fateZ := by
  show ((whF at_ keep torn).find? fun f => decide (f.at_ = (0 : Int))).getD fateZ = fateZ
  unfold whF
  rw [List.find?_cons_of_neg (by simpa using h)]
  rfl
theorem wh_stand (hd : dt.length ≤ 65536) : standB ⟨[103], 1, dt, 0⟩ = true := by
  have h1 : rightB ⟨[], 1, dt, 0⟩ = true := by
    unfold rightB
    show (if (1 : Int) = 1 then _ else _) = true
    rw [if_pos rfl]
    show (decide (dt.length ≤ 65536) && decide ((0 : Int) ≤ 0) && decide ((0 : Int) ≤ 511)) = true
    rw [decide_eq_true hd]
    rfl
  unfold standB rightV
  simp only [h1]
  rfl
theorem wh_write (hd : dt.length ≤ 65536) : writeD (wh1 old at_ keep torn) [103] dt 0 = if at_ = 0 then (crashD (wh1c old at_ keep torn) keep torn, 75) else (wh2 old dt at_ keep torn, 0) := by
  have hst : stepD (wh1 old at_ keep torn) ⟨cWrite, [103], []⟩ = if at_ = 0 then (crashD (wh1c old at_ keep torn) keep torn, 75) else (wh1c old at_ keep torn, 0) := step_one _ _ at_ keep torn rfl rfl rfl
  unfold writeD
  rw [hst]
  by_cases h : at_ = 0
  · rw [if_pos h, if_pos h]
    rfl
  · rw [if_neg h, if_neg h, after_yes rfl]
    have he : writeE (wh1c old at_ keep torn) [103] dt 0 = 0 := by
      unfold writeE roomB
      rw [wh_stand dt hd, wh_fate old at_ keep torn h]
      rfl
    rw [he]
    rfl
theorem wh_sync : syncD (wh2 old dt at_ keep torn) [103] = if at_ = 1 then (crashD (wh2c old dt at_ keep torn) keep torn, 75) else (wh3 old dt at_ keep torn, 0) := by
  have hst : stepD (wh2 old dt at_ keep torn) ⟨cSync, [103], []⟩ = if at_ = 1 then (crashD (wh2c old dt at_ keep torn) keep torn, 75) else (wh2c old dt at_ keep torn, 0) := step_one _ _ at_ keep torn rfl rfl rfl
  unfold syncD
  rw [hst]
  by_cases h : at_ = 1
  · rw [if_pos h, if_pos h]
    rfl
  · rw [if_neg h, if_neg h, after_yes rfl]
    rfl
theorem wh_replace : replaceD (wh3 old dt at_ keep torn) [103] [102] = if at_ = 2 then (crashD (wh3c old dt at_ keep torn) keep torn, 75) else (wh4 old dt at_ keep torn, 0) := by
  have hst : stepD (wh3 old dt at_ keep torn) ⟨cReplace, [103], [102]⟩ = if at_ = 2 then (crashD (wh3c old dt at_ keep torn) keep torn, 75) else (wh3c old dt at_ keep torn, 0) := step_one _ _ at_ keep torn rfl rfl rfl
  unfold replaceD
  rw [hst]
  by_cases h : at_ = 2
  · rw [if_pos h, if_pos h]
    rfl
  · rw [if_neg h, if_neg h, after_yes rfl]
    rfl
theorem wh_flush : flushD (wh4 old dt at_ keep torn) = if at_ = 3 then (crashD (wh4c old dt at_ keep torn) keep torn, 75) else (wh5 old dt at_ keep torn, 0) := by
  have hst : stepD (wh4 old dt at_ keep torn) ⟨cFlush, [], []⟩ = if at_ = 3 then (crashD (wh4c old dt at_ keep torn) keep torn, 75) else (wh4c old dt at_ keep torn, 0) := step_one _ _ at_ keep torn rfl rfl rfl
  unfold flushD
  rw [hst]
  by_cases h : at_ = 3
  · rw [if_pos h, if_pos h]
    rfl
  · rw [if_neg h, if_neg h, after_yes rfl]
    rfl
/-- At f the old data stand, or the new ones. -/
def WhOk (D : Dk) : Prop := ∃ k : Int, findN D.names [102] = some (en [102] k) ∧ (inoOf D.inos k).kind = 1 ∧ ((inoOf D.inos k).data = old ∨ (inoOf D.inos k).data = dt)
theorem wh_get {D : Dk} (h : WhOk old dt D) : (getD (bootD D [] []) [102]).2.2.2 = 0 ∧ ((getD (bootD D [] []) [102]).2.1.data = old ∨ (getD (bootD D [] []) [102]).2.1.data = dt) := by
  obtain ⟨k, h1, h2, h3⟩ := h
  have hst := step_calm (bootD D [] []) ⟨cGet, [102], []⟩ rfl rfl rfl
  obtain ⟨E, hE⟩ : ∃ E, ({ bootD D [] [] with clock := (bootD D [] []).clock + 1, trace := (bootD D [] []).trace ++ [⟨cGet, [102], []⟩] } : Dk) = E := ⟨_, rfl⟩
  have e1 : E.names = D.names := by rw [← hE]; rfl
  have e2 : E.inos = D.inos := by rw [← hE]; rfl
  rw [hE] at hst
  have hk : kindD E [102] = 1 := by
    unfold kindD kindN
    rw [if_neg (by decide), e1, e2, h1]
    exact h2
  have hm : missE E [102] = 0 := by
    unfold missE
    rw [hk]
    decide +kernel
  have hg : gotN E [102] = ⟨[102], 1, (inoOf D.inos k).data, (inoOf D.inos k).mode⟩ := by
    unfold gotN
    rw [if_neg (by decide), e1, e2, h1]
    unfold nodeOf en
    simp only
    rw [h2]
  unfold getD
  rw [hst, after_yes rfl]
  unfold refuse
  rw [hm, if_pos rfl]
  show (if (0 : Int) = 0 then (E, (gotN E [102], gotS E [102], (0 : Int))) else _).2.2.2 = 0 ∧ _
  rw [if_pos rfl, hg]
  exact ⟨rfl, h3⟩
theorem wh_ok1 : WhOk old dt (crashD (wh1c old at_ keep torn) keep torn) := by
  have hk : keptD (wh1c old at_ keep torn) keep = [en [102] 1] := by
    unfold keptD keepN
    rw [show (wh1c old at_ keep torn).later.length = 0 from rfl, Nat.min_zero, if_pos rfl]
    rfl
  refine ⟨1, ?_, rfl, .inl rfl⟩
  show findN (keptD _ _) _ = _
  rw [hk]
  rfl
theorem wh_kept2 (D : Dk) (h : D.safe = [en [102] 1]) (hl : D.later = [[en [102] 1, en [103] 2]]) : findN (keptD D keep) [102] = some (en [102] 1) := by
  unfold keptD keepN
  rw [h, hl]
  by_cases hz : keep.toNat = 0
  · rw [hz, if_pos (by simp)]
    rfl
  · rw [show min keep.toNat ([[en [102] 1, en [103] 2]] : List (List Nd)).length = 1 by simp; omega, if_neg (by omega)]
    rfl
theorem wh_ok2 : WhOk old dt (crashD (wh2c old dt at_ keep torn) keep torn) := ⟨1, wh_kept2 keep _ rfl rfl, rfl, .inl rfl⟩
theorem wh_ok3 : WhOk old dt (crashD (wh3c old dt at_ keep torn) keep torn) := ⟨1, wh_kept2 keep _ rfl rfl, rfl, .inl rfl⟩
theorem wh_ok4 : WhOk old dt (crashD (wh4c old dt at_ keep torn) keep torn) := by
  have hk : findN (keptD (wh4c old dt at_ keep torn) keep) [102] = some (en [102] 1) ∨ findN (keptD (wh4c old dt at_ keep torn) keep) [102] = some (en [102] 2) := by
    unfold keptD keepN
    rw [show (wh4c old dt at_ keep torn).later = [[en [102] 1, en [103] 2], [en [102] 2]] from rfl, show (wh4c old dt at_ keep torn).safe = [en [102] 1] from rfl, show ([[en [102] 1, en [103] 2], [en [102] 2]] : List (List Nd)).length = 2 from rfl]
    rcases (by omega : min keep.toNat 2 = 0 ∨ min keep.toNat 2 = 1 ∨ min keep.toNat 2 = 2) with h | h | h
    · rw [h]; exact .inl rfl
    · rw [h]; exact .inl rfl
    · rw [h]; exact .inr rfl
  rcases hk with hk | hk
  · exact ⟨1, hk, rfl, .inl rfl⟩
  · exact ⟨2, hk, rfl, .inr rfl⟩
theorem wh_ok5 : WhOk old dt (wh5 old dt at_ keep torn) := ⟨2, rfl, rfl, .inr rfl⟩
/-- What each of the ways leaves. -/
theorem wh_all (hd : dt.length ≤ 65536) :
    ((writeD (wh1 old at_ keep torn) [103] dt 0).2 ≠ 0 → WhOk old dt (writeD (wh1 old at_ keep torn) [103] dt 0).1) ∧
    ((writeD (wh1 old at_ keep torn) [103] dt 0).2 = 0 → (syncD (writeD (wh1 old at_ keep torn) [103] dt 0).1 [103]).2 ≠ 0 → WhOk old dt (syncD (writeD (wh1 old at_ keep torn) [103] dt 0).1 [103]).1) ∧
    ((writeD (wh1 old at_ keep torn) [103] dt 0).2 = 0 → (syncD (writeD (wh1 old at_ keep torn) [103] dt 0).1 [103]).2 = 0 → (replaceD (syncD (writeD (wh1 old at_ keep torn) [103] dt 0).1 [103]).1 [103] [102]).2 ≠ 0 → WhOk old dt (replaceD (syncD (writeD (wh1 old at_ keep torn) [103] dt 0).1 [103]).1 [103] [102]).1) ∧
    ((writeD (wh1 old at_ keep torn) [103] dt 0).2 = 0 → (syncD (writeD (wh1 old at_ keep torn) [103] dt 0).1 [103]).2 = 0 → (replaceD (syncD (writeD (wh1 old at_ keep torn) [103] dt 0).1 [103]).1 [103] [102]).2 = 0 → WhOk old dt (flushD (replaceD (syncD (writeD (wh1 old at_ keep torn) [103] dt 0).1 [103]).1 [103] [102]).1).1) := by
  rw [wh_write old dt at_ keep torn hd]
  by_cases h0 : at_ = 0
  · rw [if_pos h0]
    exact ⟨fun _ => wh_ok1 .., (fun h => absurd h (by show ¬ (75 : Int) = 0; decide)), (fun h => absurd h (by show ¬ (75 : Int) = 0; decide)), (fun h => absurd h (by show ¬ (75 : Int) = 0; decide))⟩
  · rw [if_neg h0]
    simp only [wh_sync]
    by_cases h1 : at_ = 1
    · rw [if_pos h1]
      exact ⟨(fun h => absurd rfl h), fun _ _ => wh_ok2 .., (fun _ h => absurd h (by show ¬ (75 : Int) = 0; decide)), (fun _ h => absurd h (by show ¬ (75 : Int) = 0; decide))⟩
    · rw [if_neg h1]
      simp only [wh_replace]
      by_cases h2 : at_ = 2
      · rw [if_pos h2]
        exact ⟨(fun h => absurd rfl h), (fun _ h => absurd rfl h), fun _ _ _ => wh_ok3 .., (fun _ _ h => absurd h (by show ¬ (75 : Int) = 0; decide))⟩
      · rw [if_neg h2]
        simp only [wh_flush]
        refine ⟨(fun h => absurd rfl h), (fun _ h => absurd rfl h), (fun _ _ h => absurd rfl h), fun _ _ _ => ?_⟩
        by_cases h3 : at_ = 3
        · rw [if_pos h3]
          exact wh_ok4 ..
        · rw [if_neg h3]
          exact wh_ok5 ..
end
end DG
end Go.Proofs.YtjkikkpbeceeeaaGreatDoor
end

section
/- Layer 7: the walk of DiskWhole. -/
namespace Go.Proofs.YtjkikkpbeceeeaaGreatDoor
open Go.RowKit Go.Lib Go.BigFrame
namespace DG
open OM TP TM DP DM TG TR FP

theorem DS.rebase {w w1 W : World} {S : Nat → Prop} {P m : Nat} {D : Dk} (h : DS w1 W S P m D) (hb : Below w.heap.size w w1) : DS w W S P m D :=
  ⟨h.disk, fun k hk => Nat.le_trans hb.size (h.lo k hk), Nat.le_trans hb.size h.pl, Below.trans hb (h.bel.mono hb.size), h.num⟩
theorem wide_one {w : World} {n : Nd} {g : Nat} {X Y : ByteArray} (hr : w.heap[g]? = some (.cells #[.string X, .int .i64 n.kind, .string Y, .int .i64 n.mode] 45 (0, 0))) (hX : txt n.path = .string X) (hY : txt n.data = .string Y) (hl : n.path.length ≤ maxLen) : TW.Wide w (some ⟨g, 0, none⟩) 1 [n] := by
  obtain ⟨c0, c1, c2, c3, _⟩ := row4 hr
  refine ⟨fun _ => ⟨g, 0, rfl, (Array.getElem?_eq_some_iff.1 hr).1, fun k x hk => ?_⟩, (fun e => by cases e), Nat.le_refl _, fun x hx => ?_, by unfold maxLen; simp⟩
  · match k with
    | 0 =>
      simp at hk
      subst hk
      exact ⟨c0.trans (by rw [hX]), c1, c2.trans (by rw [hY]), c3⟩
    | k + 1 => simp at hk
  · rw [List.mem_singleton.1 hx]
    exact hl
theorem wh_tree (o : List UInt8) (h : o.length ≤ 65536) : treeB [⟨[102], 1, o, 0⟩] = true := by
  have h1 : rightB ⟨[102], 1, o, 0⟩ = true := by
    unfold rightB
    show (if (1 : Int) = 1 then _ else _) = true
    rw [if_pos rfl]
    show (decide (o.length ≤ 65536) && decide ((0 : Int) ≤ 0) && decide ((0 : Int) ≤ 511)) = true
    rw [decide_eq_true h]
    rfl
  refine (tree_iff _).2 ⟨by simp, List.pairwise_singleton _ _, fun n hn => ?_, fun n hn => ?_, fun n hn => ?_⟩
  · rw [List.mem_singleton.1 hn]
    show NP.pathL [102] = true
    decide +kernel
  · rw [List.mem_singleton.1 hn]
    exact h1
  · rw [List.mem_singleton.1 hn]
    exact .inl (by show NP.upL [102] = []; decide +kernel)
set_option maxRecDepth 100000 in
set_option maxHeartbeats 12800000 in
theorem whole_any (O V : ByteArray) (fa fw fk ft : Int) (w : World) (he : NF.Env w) :
    Calls Tryz.prog 5 #[.string O, .string V, .agg #[.int .i64 fa, .int .i64 fw, .int .i64 fk, .int .i64 ft]] w fun r w' => r = .returned (.bool true) ∧ Below w.heap.size w w' := by
  have HE := Lib.hid he
  have b0 : Below w.heap.size w (w.alloc (.cells #[.int .i64 fa, .int .i64 fw, .int .i64 fk, .int .i64 ft] 63)) := (Below.refl _ _).alloc (Nat.le_refl _) _
  have hr0 := heap_alloc_new w (.cells #[.int .i64 fa, .int .i64 fw, .int .i64 fk, .int .i64 ft] 63)
  obtain ⟨w0, hw0⟩ : ∃ W, w.alloc (.cells #[.int .i64 fa, .int .i64 fw, .int .i64 fk, .int .i64 ft] 63) = W := ⟨_, rfl⟩
  rw [hw0] at b0 hr0
  have CA := Lib.hid (awake_any w0 (he.below b0))
  have B0 := Lib.hid b0
  have HR0 := Lib.hid hr0
  have HZ0 : Hid (w.heap.size < w0.heap.size) := Lib.hid (Array.getElem?_eq_some_iff.1 hr0).1
  clear he b0 hr0
  go_enter Tryz.func5, Tryz.ntmps5
  repeat (first | (go_at_call 9; fail) | go_skip | go_guarded | go_step | go_upon)
  try rw [hw0]
  clear hw0
  refine CA.out.mono ?_
  rintro r w1 ⟨rfl, hb1⟩
  simp only []
  have B1 : Hid (Below w.heap.size w w1) := Lib.hid (Below.trans B0.out (hb1.mono B0.out.size))
  have HR1 : Hid (w1.heap[w.heap.size]? = _) := Lib.hid ((hb1.block _ HZ0.out).trans HR0.out)
  have HZ1 : Hid (w.heap.size < w1.heap.size) := Lib.hid (Nat.lt_of_lt_of_le HZ0.out hb1.size)
  clear hb1
  by_cases hO : O.size ≤ 65536
  · have hOz : ¬ (65536 : Int) < (O.size : Int) := by omega
    by_cases hV : V.size ≤ 65536
    · have hVz : ¬ (65536 : Int) < (V.size : Int) := by omega
      have hOl : O.data.toList.length ≤ 65536 := by rw [← Lib.size_eq]; exact hO
      have HVl : Hid (V.data.toList.length ≤ 65536) := Lib.hid (by rw [← Lib.size_eq]; exact hV)
      have CN : Hid (Calls Tryz.prog 10 #[.slice (some ⟨w1.heap.size, 0, none⟩) 1 1] (w1.alloc (.cells #[.string ⟨#[102]⟩, .int .i64 1, .string O, .int .i64 0] 45)) fun r w' => ∃ S P, r = .returned (.tuple #[.pointer (some ⟨P, 0, none⟩), .int .i64 0]) ∧ DS (w1.alloc (.cells #[.string ⟨#[102]⟩, .int .i64 1, .string O, .int .i64 0] 45)) w' S P 0 (newD [⟨[102], 1, O.data.toList, 0⟩])) := Lib.hid (by
        refine new_ds (t := [⟨[102], 1, O.data.toList, 0⟩]) (HE.out.below (B1.out.alloc B1.out.size _)) (wide_one (heap_alloc_new w1 _) rfl (TM.txt_data O) (by show (1 : Nat) ≤ maxLen; unfold maxLen; omega)) (wh_tree _ hOl))
      have BA : Hid (Below w.heap.size w (w1.alloc (.cells #[.string ⟨#[102]⟩, .int .i64 1, .string O, .int .i64 0] 45))) := Lib.hid (B1.out.alloc B1.out.size _)
      clear hO hV hOl
      repeat (first | (go_at_call 10; fail) | go_skip | go_guarded | go_step | go_upon)
      refine CN.out.mono ?_
      rintro r w2 ⟨S, P, rfl, h2⟩
      simp only []
      have hbox : w2.heap[w.heap.size]? = some (.cells #[.int .i64 fa, .int .i64 fw, .int .i64 fk, .int .i64 ft] 63 (0, 0)) := (h2.bel.block _ (by have := HZ1.out; simp; omega)).trans ((Below.heap_alloc w1 _ _ HZ1.out).trans HR1.out)
      have hS : ¬ S w.heap.size ∧ w.heap.size ≠ P := by
        have h5 := HZ1.out
        refine ⟨fun h => ?_, ?_⟩
        · have := h2.lo _ h; simp at this; omega
        · have := h2.pl; simp at this; omega
      have h3 := h2.rebase BA.out
      have D3 : Hid (DS w (w2.setCell ⟨w.heap.size, 1, none⟩ (.int .i64 3)) S P 0 (newD [⟨[102], 1, O.data.toList, 0⟩])) := Lib.hid (by
        have u : Out (fun k => k = w.heap.size) w2 (w2.setCell ⟨w.heap.size, 1, none⟩ (.int .i64 3)) := (Out.refl (fun k => k = w.heap.size) w2).setCell (p := ⟨w.heap.size, 1, none⟩) (fun _ => rfl) _
        exact h3.out u (fun k hk => by
          have hk2 : k = w.heap.size := hk
          rw [hk2]
          exact ⟨hS.1, hS.2, Nat.le_refl _⟩))
      have hbox2 := row_set (j := 1) hbox (.int .i64 3)
      obtain ⟨c0, c1, c2, c3, cf⟩ := row4 hbox
      obtain ⟨k0, k1, k2, k3, kf⟩ := row4 (show (w2.setCell ⟨w.heap.size, 1, none⟩ (.int .i64 3)).heap[w.heap.size]? = some (.cells #[.int .i64 fa, .int .i64 3, .int .i64 fk, .int .i64 ft] 63 (0, 0)) from hbox2)
      clear h2 h3 hbox hbox2 hS
      repeat (first | (go_at_call 17; fail) | go_skip | go_guarded | go_step | go_upon)
      have CB := Lib.hid (D3.out.boot1 ⟨fa, 3, fk, ft⟩ rfl)
      rw [set_size] at CB
      refine CB.out.mono ?_
      rintro r w4 ⟨rfl, S4, h4, _, _⟩
      simp only []
      have CW : Hid (Calls Tryz.prog 12 #[.pointer (some ⟨P, 0, none⟩), .string ⟨#[103]⟩, .string V, .int .i64 0] w4 fun r W' => r = .returned (.int .i64 (writeD (wh1 O.data.toList fa fk ft) [103] V.data.toList 0).2) ∧ Aft w w4 S4 P 1 (writeD (wh1 O.data.toList fa fk ft) [103] V.data.toList 0).1 W') := Lib.hid (by
        have h4' : DS w w4 S4 P 0 (wh1 O.data.toList fa fk ft) := h4
        have := h4'.write HE.out (by omega) [103] V.data.toList 0 (by show (1 : Nat) ≤ maxLen; unfold maxLen; omega)
        rw [TM.txt_data V] at this
        exact this)
      obtain ⟨hw1, hw2, hw3, hw4⟩ := wh_all O.data.toList V.data.toList fa fk ft HVl.out
      obtain ⟨⟨DA, eA⟩, hA⟩ : ∃ z, writeD (wh1 O.data.toList fa fk ft) [103] V.data.toList 0 = z := ⟨_, rfl⟩
      rw [hA] at CW hw1 hw2 hw3 hw4
      simp only at CW hw1 hw2 hw3 hw4
      have H1 := Lib.hid hw1
      have H2 := Lib.hid hw2
      have H3 := Lib.hid hw3
      have H4 := Lib.hid hw4
      clear h4 hA hw1 hw2 hw3 hw4 k0 k1 k2 k3 kf c0 c1 c2 c3 cf
      repeat (first | (go_at_call 12; fail) | go_skip | go_guarded | go_step | go_upon)
      refine CW.out.mono ?_
      rintro r w5 ⟨rfl, S5, h5, _, _⟩
      simp only []
      have D5 := Lib.hid h5
      clear h5
      by_cases z1 : eA = 0
      · subst z1
        have CS : Hid (Calls Tryz.prog 26 #[.pointer (some ⟨P, 0, none⟩), .string ⟨#[103]⟩] w5 fun r W' => r = .returned (.int .i64 (syncD DA [103]).2) ∧ Aft w w5 S5 P 2 (syncD DA [103]).1 W') := Lib.hid (D5.out.sync HE.out (by omega) [103] (by show (1 : Nat) ≤ maxLen; unfold maxLen; omega))
        have H2' := Lib.hid (H2.out rfl)
        have H3' := Lib.hid (H3.out rfl)
        have H4' := Lib.hid (H4.out rfl)
        obtain ⟨⟨DB, eB⟩, hB⟩ : ∃ z, syncD DA [103] = z := ⟨_, rfl⟩
        rw [hB] at CS H2' H3' H4'
        simp only at CS H2' H3' H4'
        clear hB
        repeat (first | (go_at_call 26; fail) | go_skip | go_guarded | go_step | go_upon)
        refine CS.out.mono ?_
        rintro r w6 ⟨rfl, S6, h6, _, _⟩
        simp only []
        have D6 := Lib.hid h6
        clear h6
        by_cases z2 : eB = 0
        · subst z2
          have CR : Hid (Calls Tryz.prog 29 #[.pointer (some ⟨P, 0, none⟩), .string ⟨#[103]⟩, .string ⟨#[102]⟩] w6 fun r W' => r = .returned (.int .i64 (replaceD DB [103] [102]).2) ∧ Aft w w6 S6 P 3 (replaceD DB [103] [102]).1 W') := Lib.hid (D6.out.replace HE.out (by omega) [103] [102] (by show (1 : Nat) ≤ maxLen; unfold maxLen; omega) (by show (1 : Nat) ≤ maxLen; unfold maxLen; omega))
          have H3q := Lib.hid (H3'.out rfl)
          have H4q := Lib.hid (H4'.out rfl)
          obtain ⟨⟨DC, eC⟩, hC⟩ : ∃ z, replaceD DB [103] [102] = z := ⟨_, rfl⟩
          rw [hC] at CR H3q H4q
          simp only at CR H3q H4q
          clear hC
          repeat (first | (go_at_call 29; fail) | go_skip | go_guarded | go_step | go_upon)
          refine CR.out.mono ?_
          rintro r w7 ⟨rfl, S7, h7, _, _⟩
          simp only []
          have D7 := Lib.hid h7
          clear h7
          by_cases z3 : eC = 0
          · subst z3
            have CF := Lib.hid (D7.out.flush HE.out (by omega))
            have HOk0 := Lib.hid (H4q.out rfl)
            obtain ⟨⟨Dx, eD⟩, hD⟩ : ∃ z, flushD DC = z := ⟨_, rfl⟩
            rw [hD] at CF HOk0
            simp only at CF HOk0
            have HOk := HOk0
            clear hD
            repeat (first | (go_at_call 27; fail) | go_skip | go_guarded | go_step | go_upon)
            refine CF.out.mono ?_
            rintro r w8 ⟨rfl, S8, h8, _, _⟩
            simp only []
            have HDx := Lib.hid h8
            clear h8
            have CB := Lib.hid HDx.out.boot0
            repeat (first | (go_at_call 17; fail) | go_skip | go_guarded | go_step | go_upon)
            refine CB.out.mono ?_
            rintro r wb ⟨rfl, Sb, hb, _, _⟩
            simp only []
            have CG := Lib.hid (hb.get HE.out (by omega) [102] (by show (1 : Nat) ≤ maxLen; unfold maxLen; omega))
            have HBb := Lib.hid hb.bel
            obtain ⟨hz, hdat⟩ := wh_get _ _ HOk.out
            obtain ⟨Z, hZ⟩ : ∃ Z, DP.getD (bootD Dx [] []) [102] = Z := ⟨_, rfl⟩
            rw [hZ] at CG hz hdat
            obtain ⟨E9, ⟨np, nk, nd, nm⟩, ⟨s1, s2, s3⟩, e9⟩ := Z
            simp only at hz hdat
            subst hz
            obtain ⟨X1, hX1, _⟩ := txt_of np
            obtain ⟨X2, hX2, hX2d⟩ := txt_of nd
            unfold ndVal stampVal at CG
            simp only at CG
            rw [hX1, hX2] at CG
            have hcmp : (X2.toList == O.toList) = true ∨ ((X2.toList == O.toList) = false ∧ (X2.toList == V.toList) = true) := by
              rw [Lib.toList_data, Lib.toList_data, Lib.toList_data, hX2d]
              by_cases hq : nd = O.data.toList
              · exact .inl (by rw [hq]; simp)
              · refine .inr ⟨by simpa using hq, ?_⟩
                rcases hdat with h | h
                · exact absurd h hq
                · rw [h]; simp
            clear hb hX1 hX2 hX2d hdat
            rcases hcmp with hc1 | ⟨hc1, hc2⟩
            all_goals
              repeat (first | (go_at_call 28; fail) | go_skip | go_guarded | go_step | go_upon)
              refine CG.out.mono ?_
              rintro r w9 ⟨rfl, S9, h9, _, _⟩
              simp only []
              have HB9 := Lib.hid h9.bel
              clear h9
              repeat (first | go_skip | go_guarded | go_step | go_upon)
              go_ret
              exact ⟨rfl, ((((HB9.out.alloc HB9.out.size _).alloc (by simp; have := HB9.out.size; omega) _)))⟩
          · have hz3 : (eC == 0) = false := by simpa using z3
            obtain ⟨Dx, hDx⟩ : ∃ D, DC = D := ⟨_, rfl⟩
            have HOk := Lib.hid (H3q.out z3)
            rw [hDx] at HOk D7
            have HDx := D7
            clear z3 hDx
            have CB := Lib.hid HDx.out.boot0
            repeat (first | (go_at_call 17; fail) | go_skip | go_guarded | go_step | go_upon)
            refine CB.out.mono ?_
            rintro r wb ⟨rfl, Sb, hb, _, _⟩
            simp only []
            have CG := Lib.hid (hb.get HE.out (by omega) [102] (by show (1 : Nat) ≤ maxLen; unfold maxLen; omega))
            have HBb := Lib.hid hb.bel
            obtain ⟨hz, hdat⟩ := wh_get _ _ HOk.out
            obtain ⟨Z, hZ⟩ : ∃ Z, DP.getD (bootD Dx [] []) [102] = Z := ⟨_, rfl⟩
            rw [hZ] at CG hz hdat
            obtain ⟨E9, ⟨np, nk, nd, nm⟩, ⟨s1, s2, s3⟩, e9⟩ := Z
            simp only at hz hdat
            subst hz
            obtain ⟨X1, hX1, _⟩ := txt_of np
            obtain ⟨X2, hX2, hX2d⟩ := txt_of nd
            unfold ndVal stampVal at CG
            simp only at CG
            rw [hX1, hX2] at CG
            have hcmp : (X2.toList == O.toList) = true ∨ ((X2.toList == O.toList) = false ∧ (X2.toList == V.toList) = true) := by
              rw [Lib.toList_data, Lib.toList_data, Lib.toList_data, hX2d]
              by_cases hq : nd = O.data.toList
              · exact .inl (by rw [hq]; simp)
              · refine .inr ⟨by simpa using hq, ?_⟩
                rcases hdat with h | h
                · exact absurd h hq
                · rw [h]; simp
            clear hb hX1 hX2 hX2d hdat
            rcases hcmp with hc1 | ⟨hc1, hc2⟩
            all_goals
              repeat (first | (go_at_call 28; fail) | go_skip | go_guarded | go_step | go_upon)
              refine CG.out.mono ?_
              rintro r w9 ⟨rfl, S9, h9, _, _⟩
              simp only []
              have HB9 := Lib.hid h9.bel
              clear h9
              repeat (first | go_skip | go_guarded | go_step | go_upon)
              go_ret
              exact ⟨rfl, ((((HB9.out.alloc HB9.out.size _).alloc (by simp; have := HB9.out.size; omega) _)))⟩
        · have hz2 : (eB == 0) = false := by simpa using z2
          obtain ⟨Dx, hDx⟩ : ∃ D, DB = D := ⟨_, rfl⟩
          have HOk := Lib.hid (H2'.out z2)
          rw [hDx] at HOk D6
          have HDx := D6
          clear z2 hDx H3' H4'
          have CB := Lib.hid HDx.out.boot0
          repeat (first | (go_at_call 17; fail) | go_skip | go_guarded | go_step | go_upon)
          refine CB.out.mono ?_
          rintro r wb ⟨rfl, Sb, hb, _, _⟩
          simp only []
          have CG := Lib.hid (hb.get HE.out (by omega) [102] (by show (1 : Nat) ≤ maxLen; unfold maxLen; omega))
          have HBb := Lib.hid hb.bel
          obtain ⟨hz, hdat⟩ := wh_get _ _ HOk.out
          obtain ⟨Z, hZ⟩ : ∃ Z, DP.getD (bootD Dx [] []) [102] = Z := ⟨_, rfl⟩
          rw [hZ] at CG hz hdat
          obtain ⟨E9, ⟨np, nk, nd, nm⟩, ⟨s1, s2, s3⟩, e9⟩ := Z
          simp only at hz hdat
          subst hz
          obtain ⟨X1, hX1, _⟩ := txt_of np
          obtain ⟨X2, hX2, hX2d⟩ := txt_of nd
          unfold ndVal stampVal at CG
          simp only at CG
          rw [hX1, hX2] at CG
          have hcmp : (X2.toList == O.toList) = true ∨ ((X2.toList == O.toList) = false ∧ (X2.toList == V.toList) = true) := by
            rw [Lib.toList_data, Lib.toList_data, Lib.toList_data, hX2d]
            by_cases hq : nd = O.data.toList
            · exact .inl (by rw [hq]; simp)
            · refine .inr ⟨by simpa using hq, ?_⟩
              rcases hdat with h | h
              · exact absurd h hq
              · rw [h]; simp
          clear hb hX1 hX2 hX2d hdat
          rcases hcmp with hc1 | ⟨hc1, hc2⟩
          all_goals
            repeat (first | (go_at_call 28; fail) | go_skip | go_guarded | go_step | go_upon)
            refine CG.out.mono ?_
            rintro r w9 ⟨rfl, S9, h9, _, _⟩
            simp only []
            have HB9 := Lib.hid h9.bel
            clear h9
            repeat (first | go_skip | go_guarded | go_step | go_upon)
            go_ret
            exact ⟨rfl, ((((HB9.out.alloc HB9.out.size _).alloc (by simp; have := HB9.out.size; omega) _)))⟩
      · have hz1 : (eA == 0) = false := by simpa using z1
        obtain ⟨Dx, hDx⟩ : ∃ D, DA = D := ⟨_, rfl⟩
        have HOk := Lib.hid (H1.out z1)
        rw [hDx] at HOk D5
        have HDx := D5
        clear z1 hDx H2 H3 H4 H1
        have CB := Lib.hid HDx.out.boot0
        repeat (first | (go_at_call 17; fail) | go_skip | go_guarded | go_step | go_upon)
        refine CB.out.mono ?_
        rintro r wb ⟨rfl, Sb, hb, _, _⟩
        simp only []
        have CG := Lib.hid (hb.get HE.out (by omega) [102] (by show (1 : Nat) ≤ maxLen; unfold maxLen; omega))
        have HBb := Lib.hid hb.bel
        obtain ⟨hz, hdat⟩ := wh_get _ _ HOk.out
        obtain ⟨Z, hZ⟩ : ∃ Z, DP.getD (bootD Dx [] []) [102] = Z := ⟨_, rfl⟩
        rw [hZ] at CG hz hdat
        obtain ⟨E9, ⟨np, nk, nd, nm⟩, ⟨s1, s2, s3⟩, e9⟩ := Z
        simp only at hz hdat
        subst hz
        obtain ⟨X1, hX1, _⟩ := txt_of np
        obtain ⟨X2, hX2, hX2d⟩ := txt_of nd
        unfold ndVal stampVal at CG
        simp only at CG
        rw [hX1, hX2] at CG
        have hcmp : (X2.toList == O.toList) = true ∨ ((X2.toList == O.toList) = false ∧ (X2.toList == V.toList) = true) := by
          rw [Lib.toList_data, Lib.toList_data, Lib.toList_data, hX2d]
          by_cases hq : nd = O.data.toList
          · exact .inl (by rw [hq]; simp)
          · refine .inr ⟨by simpa using hq, ?_⟩
            rcases hdat with h | h
            · exact absurd h hq
            · rw [h]; simp
        clear hb hX1 hX2 hX2d hdat
        rcases hcmp with hc1 | ⟨hc1, hc2⟩
        all_goals
          repeat (first | (go_at_call 28; fail) | go_skip | go_guarded | go_step | go_upon)
          refine CG.out.mono ?_
          rintro r w9 ⟨rfl, S9, h9, _, _⟩
          simp only []
          have HB9 := Lib.hid h9.bel
          clear h9
          repeat (first | go_skip | go_guarded | go_step | go_upon)
          go_ret
          exact ⟨rfl, ((((HB9.out.alloc HB9.out.size _).alloc (by simp; have := HB9.out.size; omega) _)))⟩
    · have hVz : (65536 : Int) < (V.size : Int) := by omega
      clear hO hV
      repeat (first | go_skip | go_guarded | go_step | go_upon)
      go_ret
      exact ⟨rfl, B1.out⟩
  · have hOz : (65536 : Int) < (O.size : Int) := by omega
    clear hO
    repeat (first | go_skip | go_guarded | go_step | go_upon)
    go_ret
    exact ⟨rfl, B1.out⟩
end DG
end Go.Proofs.YtjkikkpbeceeeaaGreatDoor
end

section
/- DiskWhole answers true for every two texts and every fate. Condition: Go's two tables utf8.first and utf8.acceptRanges lie as Go's text lays them (tied to that text). -/
namespace Go.Proofs.YtjkikkpbeceeeaaGreatDoor
open Go.ChangeShapes Go.WideShapes Go.ChangeAt Go.RowKit Go.Lib
open Go.ChangeMaps (open_string shut_string)
namespace DiskWholeCard


set_option maxRecDepth 100000 in
theorem contract (H : Type) (enc : TypeId × Value → H) (W : World) (base : Nat) (args : Array Value) (ds gs : List (DataW H)) (before : List MemPlace)
    (hval : ∀ (j : Nat) t v, Tryz.f5.params[j]? = some t → args[j]? = some v → Value.okWide Tryz.prog W .any base t v)
    (hW : DataW.Whole enc Tryz.prog Tryz.f5.params.toList Rows.diskWholeSpec.vars false W args.toList ds gs before) (hL : laidMetH Tryz.prog FR.laid W) (hsh : W.ShapedOpen Tryz.prog) :
    Calls Tryz.prog 5 args W fun e W' => ∃ v, e = .returned v ∧ Rows.diskWholeSpec.post enc Tryz.prog Tryz.f5 false true false false W args v W' := by
  have hW' := hW
  obtain ⟨p, q, hA0, hV, rfl, hfz, hnd⟩ := hW
  have hA : DataW.TrodAll enc Tryz.prog W 0 (fun _ => true) true Tryz.f5.params.toList args.toList ds p := hA0
  rw [Tryz.params5] at hA hval
  obtain ⟨v0, vs0, d0, ds0, p0, q0, hargs, rfl, rfl, h0, r0⟩ := trodAll_cons hA
  obtain ⟨v1, vs1, d1, ds1, p1, q1, rfl, rfl, rfl, h1, r1⟩ := trodAll_cons r0
  obtain ⟨v2, vs2, d2, ds2, p2, q2, rfl, rfl, rfl, h2, r2⟩ := trodAll_cons r1
  obtain ⟨rfl, rfl, rfl⟩ := trodAll_nil r2
  obtain rfl : args = #[v0, v1, v2] := by cases args; simp_all
  obtain ⟨rfl, rfl⟩ := trodVars_none hV
  refine LK.post_of rfl (by kernel_rfl) (by kernel_rfl) (fun gs h => by subst h; rfl) hW' ?_
  obtain ⟨s0, rfl, rfl, rfl, _⟩ := open_string Tryz.underlying9 (hval 0 9 v0 rfl rfl) h0
  obtain ⟨s1, rfl, rfl, rfl, _⟩ := open_string Tryz.underlying9 (hval 1 9 v1 rfl rfl) h1
  obtain ⟨fa, fw, fk, ft, rfl⟩ := DA.fate_arg (hval 2 63 v2 rfl rfl) h2
  exact DG.whole_any s0 s1 fa fw fk ft W (FR.env_of hL hsh)
theorem reads (os : Os) {H : Type} (enc : TypeId × Value → H) : ∃ places, DataW.whole enc Tryz.prog (FR.w0 os #[.string ⟨#[]⟩, .string ⟨#[]⟩, .agg #[.int .i64 0, .int .i64 0, .int .i64 0, .int .i64 0]]).memory Tryz.f5.params.toList Rows.diskWholeSpec.vars false #[Value.string ⟨#[]⟩, .string ⟨#[]⟩, .agg #[.int .i64 0, .int .i64 0, .int .i64 0, .int .i64 0]].toList 8 = some ([.lit (.string []), .lit (.string []), .agg [.lit (.int .i64 0), .lit (.int .i64 0), .lit (.int .i64 0), .lit (.int .i64 0)]], [], places) :=
  ⟨[], by kernel_rfl⟩
set_option maxRecDepth 100000 in
theorem lifted (os : Os) (started : os.Started) (H : Type) (enc : TypeId × Value → H) (F : Stop.Interp) :
    ReturnsInHanded {} Tryz.checked os 5 .any ((OpenSpec.ofChange Rows.diskWholeSpec).preRow enc Tryz.prog Tryz.f5 Rows.diskWholeRow.domain false Rows.diskWholeRow.laid) (((OpenSpec.ofChange Rows.diskWholeSpec).at F).post enc Tryz.prog Tryz.f5 false true false false) := by
  obtain ⟨places, hx⟩ := reads os enc
  refine returnsInHanded_of_row (C := Tryz.checked) (s := OpenSpec.ofChange Rows.diskWholeSpec) (laid := FR.laid) FR.own started (by kernel_rfl) Tryz.func5
    (FR.witness (enc := enc) #[.string ⟨#[]⟩, .string ⟨#[]⟩, .agg #[.int .i64 0, .int .i64 0, .int .i64 0, .int .i64 0]] (by kernel_rfl)
      (OpenSpec.preRow_of_cond 8 hx (by kernel_rfl) (fun k hk => by cases hk) (by kernel_rfl) (FR.met os _))) ?_
  intro W base args ds gs before hval hW _ _ _ hL hsh _
  exact contract H enc W base args ds gs before hval hW hL hsh
theorem said : Rows.DiskWholeSaid :=
  OpenClaim.holds_of_cond 5 Tryz.f5 rfl rfl rfl rfl rfl rfl rfl ⟨rfl, rfl, rfl, rfl, rfl⟩ rfl rfl rfl rfl rfl (by kernel_rfl) Tryz.func5 (by kernel_rfl)
    (of_decide_eq_true (by kernel_rfl)) (by unfold Func.isWrapper; first | (rw [if_pos (by decide +kernel)]; kernel_rfl) | (rw [if_neg (by decide +kernel)]; exact ⟨rfl, rfl⟩))
    (fun os started H enc _ F => by rw [OpenClaim.pre_eq_preRow]; exact lifted os started H enc F)
theorem plain (f : FuncId) (fn : Func) (hf : Tryz.pinned.checked.prog.funcNamed "hawser/hawserlaw07.DiskWhole" = some f) (hfn : Tryz.pinned.checked.prog.funcs[f]? = some fn) :
    false = Tryz.pinned.checked.prog.looks [] ∧ ∀ (j : Nat) t, fn.params[j]? = some t → Tryz.pinned.checked.prog.wantsStandIn t = false := by
  obtain rfl : f = 5 := Option.some.inj ((show Tryz.prog.funcNamed "hawser/hawserlaw07.DiskWhole" = some 5 by kernel_rfl).symm.trans hf) |>.symm
  obtain rfl : fn = Tryz.f5 := (Option.some.inj (Tryz.func5.symm.trans hfn)).symm
  refine ⟨by kernel_rfl, fun j t ht => ?_⟩
  have hall : (Tryz.f5.params.all fun t => !(Tryz.prog.wantsStandIn t)) = true := by kernel_rfl
  have := (Array.all_eq_true_iff_forall_mem.1 hall) t (Array.mem_of_getElem? ht)
  have h2 : Tryz.prog.wantsStandIn t = false := by simpa using this
  exact h2
end DiskWholeCard
theorem diskWhole_card : Rows.DiskWholeCardSaid :=
  Claim7.holds_tied_plain_at .later [] _ _ _ _ DiskWholeCard.said (fun _ h => by cases h) (by kernel_rfl) (fun _ h => by cases h) diskWhole_row_tie rfl ⟨rfl, rfl⟩ (by kernel_rfl) rfl DiskWholeCard.plain (by kernel_rfl)
#print axioms diskWhole_card
end Go.Proofs.YtjkikkpbeceeeaaGreatDoor
end
