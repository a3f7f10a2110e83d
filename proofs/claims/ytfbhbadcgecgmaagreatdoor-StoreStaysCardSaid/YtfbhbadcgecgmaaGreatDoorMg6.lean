/- Texts of this seat, put one behind the other: what its statements share (part 6). -/
import Derived.Test.YtfbhbadcgecgmaaGreatDoorMg1
section
/- Layer 10 over lists: a text that is saved, loaded, cleared. -/
namespace Go.Proofs.YtfbhbadcgecgmaaGreatDoor
open Go
namespace ST
open NP TP DP

theorem aft_yes {r : Dk × Int} {f : Dk → Dk × Int} (h : r.2 = 0) : DP.after r f = f r.1 := by unfold after; rw [if_pos h]
theorem aft_no {r : Dk × Int} {f : Dk → Dk × Int} (h : r.2 ≠ 0) : after r f = r := by unfold after; rw [if_neg h]

def besideL (p : List UInt8) : List UInt8 := p ++ [126]
def save1 (D : Dk) (p t : List UInt8) : Dk × Int := writeD D (besideL p) t 384
def save2 (D : Dk) (p t : List UInt8) : Dk × Int := DP.after (save1 D p t) fun E => syncD E (besideL p)
def save3 (D : Dk) (p t : List UInt8) : Dk × Int := DP.after (save2 D p t) fun E => replaceD E (besideL p) p
def saveD (D : Dk) (p t : List UInt8) : Dk × Int := DP.after (save3 D p t) fun E => flushD E
def clear2 (D : Dk) (p : List UInt8) : Dk × Int := DP.after (removeD D p) fun E => flushD E
def clearD (D : Dk) (p : List UInt8) : Dk × Int := ((clear2 D p).1, if (clear2 D p).2 = 74 then 0 else (clear2 D p).2)
def loadD (D : Dk) (p : List UInt8) : Dk × (List UInt8 × Bool × Int) :=
  ((getD D p).1,
    if (getD D p).2.2.2 = 74 then ([], false, 0) else if (getD D p).2.2.2 ≠ 0 then ([], false, (getD D p).2.2.2)
    else if (getD D p).2.1.kind ≠ 1 then ([], false, 73) else ((getD D p).2.1.data, true, 0))
/- one fate -/
def nowD (D : Dk) (c : Did) : Dk := { D with clock := D.clock + 1, trace := D.trace ++ [c] }
/-- A step of a disk that is on, without edits, with at most one fate. -/
theorem step_fate (D : Dk) (c : Did) (f : Fate) (h0 : D.off = false) (h1 : D.edits = []) (h2 : D.fates = [f]) :
    stepD D c = if f.at_ = (D.trace.length : Int) ∧ f.what = 3 then (crashD (nowD D c) f.keep f.torn, 75) else if f.at_ = (D.trace.length : Int) ∧ f.what = 1 then (nowD D c, 70) else (nowD D c, 0) := by
  have hb : begunD D c = nowD D c := by
    unfold begunD nowD
    rw [h1]
    rfl
  have hf : fateD (begunD D c) = if f.at_ = (D.trace.length : Int) then f else fateZ := by
    rw [hb]
    unfold fateD fateOf nowD
    show ((D.fates.find? _).getD fateZ) = _
    rw [h2, List.length_append, List.length_singleton, show ((D.trace.length + 1 : Nat) : Int) - 1 = (D.trace.length : Int) by omega]
    by_cases h : f.at_ = (D.trace.length : Int)
    · rw [if_pos h, List.find?_cons_of_pos (by simpa using h)]
      rfl
    · rw [if_neg h, List.find?_cons_of_neg (by simpa using h)]
      rfl
  unfold stepD
  rw [if_neg (by rw [h0]; simp), hf, hb]
  by_cases h : f.at_ = (D.trace.length : Int)
  · rw [if_pos h]
    simp only [h, true_and]
  · rw [if_neg h, if_neg (show ¬ (fateZ.what = 3) by decide), if_neg (show ¬ (fateZ.what = 1) by decide), if_neg (fun e => h e.1), if_neg (fun e => h e.1)]
theorem now_fate (D : Dk) (c : Did) (f : Fate) (h2 : D.fates = [f]) (h : ¬ (f.at_ = (D.trace.length : Int) ∧ f.what = 2)) : (fateD (nowD D c)).what ≠ 2 := by
  unfold fateD fateOf nowD
  show ((D.fates.find? _).getD fateZ).what ≠ 2
  rw [h2, List.length_append, List.length_singleton, show ((D.trace.length + 1 : Nat) : Int) - 1 = (D.trace.length : Int) by omega]
  by_cases ha : f.at_ = (D.trace.length : Int)
  · rw [List.find?_cons_of_pos (by simpa using ha)]
    show f.what ≠ 2
    exact fun e => h ⟨ha, e⟩
  · rw [List.find?_cons_of_neg (by simpa using ha)]
    show (0 : Int) ≠ 2
    decide
theorem now_full (D : Dk) (c : Did) (f : Fate) (h2 : D.fates = [f]) (h : f.at_ = (D.trace.length : Int) ∧ f.what = 2) : (fateD (nowD D c)).what = 2 := by
  unfold fateD fateOf nowD
  show ((D.fates.find? _).getD fateZ).what = 2
  rw [h2, List.length_append, List.length_singleton, show ((D.trace.length + 1 : Nat) : Int) - 1 = (D.trace.length : Int) by omega, List.find?_cons_of_pos (by simpa using h.1)]
  exact h.2
theorem now_calm (D : Dk) (c : Did) (h2 : D.fates = []) : (fateD (nowD D c)).what ≠ 2 := by
  unfold fateD fateOf nowD
  show ((D.fates.find? _).getD fateZ).what ≠ 2
  rw [h2]
  show (0 : Int) ≠ 2
  decide
theorem st_stand (q t : List UInt8) (hd : t.length ≤ 65536) : standB ⟨q, 1, t, 384⟩ = true := by
  have h1 : rightB ⟨[], 1, t, 384⟩ = true := by
    unfold rightB
    show (if (1 : Int) = 1 then _ else _) = true
    rw [if_pos rfl]
    show (decide (t.length ≤ 65536) && decide ((0 : Int) ≤ 384) && decide ((384 : Int) ≤ 511)) = true
    rw [decide_eq_true hd]
    rfl
  unfold standB rightV
  simp only [h1]
  rfl
def fileI (D : Dk) (t : List UInt8) (d : Bool) : Ino := ⟨D.clock, 1, 384, t, d⟩
/-- A file is written where nothing is. -/
theorem write_new {D E : Dk} {q t : List UInt8} (hE : stepD D ⟨cWrite, q, []⟩ = (E, 0)) (hq : pathL q = true) (hq0 : q ≠ []) (hup : parentL q = []) (hf : findN E.names q = none) (ht : t.length ≤ 65536) (hn : E.names.length < 1000) (hr : (fateD E).what ≠ 2) :
    writeD D q t 384 = ({ E with names := insE (delE E.names q) (en q (E.inos.length + 1 : Nat)), later := E.later ++ [insE (delE E.names q) (en q (E.inos.length + 1 : Nat))], inos := E.inos ++ [fileI E t true] }, 0) := by
  have hk : kindD E q = 0 := by
    unfold kindD kindN
    rw [if_neg hq0, hf]
  have he : writeE E q t 384 = 0 := by
    unfold writeE roomB upB kindN
    rw [hq, st_stand q t ht, hk, hup, if_pos rfl, decide_eq_true hr, show decide (1000 ≤ E.names.length) = false from decide_eq_false (by omega)]
    rfl
  unfold writeD
  rw [hE, aft_yes rfl, he]
  show (wroteD E q t 384, (0 : Int)) = _
  congr 1
  unfold wroteD
  rw [hk, if_pos rfl]
  have hne : ¬ ((E.inos.length + 1 : Nat) : Int) = 0 := by omega
  have hch : (changeD (freshD E ⟨q, 1, t, 384⟩) [freshE E ⟨q, 1, t, 384⟩]) = { E with names := insE (delE E.names q) (en q (E.inos.length + 1 : Nat)), later := E.later ++ [insE (delE E.names q) (en q (E.inos.length + 1 : Nat))], inos := E.inos ++ [freshI E ⟨q, 1, t, 384⟩] } := by
    unfold changeD freshD withE
    show Dk.mk ([freshE E ⟨q, 1, t, 384⟩].foldl putE E.names) E.safe (E.later ++ [[freshE E ⟨q, 1, t, 384⟩].foldl putE E.names]) (E.inos ++ [freshI E ⟨q, 1, t, 384⟩]) E.off E.clock E.trace E.fates E.edits = _
    have : [freshE E ⟨q, 1, t, 384⟩].foldl putE E.names = insE (delE E.names q) (en q (E.inos.length + 1 : Nat)) := by
      show putE E.names (freshE E ⟨q, 1, t, 384⟩) = _
      unfold putE
      rw [if_neg (by exact hne)]
      rfl
    rw [this]
  rw [hch]
  have hfi : findN (insE (delE E.names q) (en q (E.inos.length + 1 : Nat))) q = some (en q (E.inos.length + 1 : Nat)) := by
    unfold findN insE
    rw [List.find?_append, List.find?_eq_none.2 (fun x hx => by
      have h1 := (List.mem_filter.1 hx).1
      unfold delE at h1
      have h2 := (List.mem_filter.1 h1).2
      simpa using h2)]
    rw [Option.none_or, List.find?_cons_of_pos (by simp [en])]
  unfold setI
  simp only [hfi]
  have h1 : inoOf (E.inos ++ [freshI E ⟨q, 1, t, 384⟩]) (en q (E.inos.length + 1 : Nat)).kind = freshI E ⟨q, 1, t, 384⟩ := by
    unfold inoOf en
    simp
  have h2 : ((en q (E.inos.length + 1 : Nat)).kind.toNat - 1) = E.inos.length := by
    unfold en
    simp
  rw [h1, h2]
  congr 1
  rw [List.set_append_right _ _ (Nat.le_refl _), Nat.sub_self]
  rfl
/-- A file is written over one that is there. -/
theorem write_over {D E : Dk} {q t : List UInt8} {k : Nat} (hE : stepD D ⟨cWrite, q, []⟩ = (E, 0)) (hq : pathL q = true) (hq0 : q ≠ []) (hup : parentL q = []) (hf : findN E.names q = some (en q k)) (hk : (inoOf E.inos k).kind = 1) (ht : t.length ≤ 65536) (hr : (fateD E).what ≠ 2) :
    writeD D q t 384 = ({ E with inos := E.inos.set (k - 1) (fileI E t true) }, 0) := by
  have hkd : kindD E q = 1 := by
    unfold kindD kindN
    rw [if_neg hq0, hf]
    exact hk
  have he : writeE E q t 384 = 0 := by
    unfold writeE roomB upB kindN
    rw [hq, st_stand q t ht, hkd, hup, if_pos rfl, decide_eq_true hr]
    rfl
  unfold writeD
  rw [hE, aft_yes rfl, he]
  show (wroteD E q t 384, (0 : Int)) = _
  congr 1
  unfold wroteD
  rw [hkd, if_neg (by decide)]
  unfold setI
  simp only [hf]
  have h2 : ((en q k).kind.toNat - 1) = k - 1 := by
    unfold en
    simp
  rw [h2]
  congr 1
  congr 1
  unfold wroteI fileI en
  rw [hk]
/-- The full disk refuses. -/
theorem write_full {D E : Dk} {q t : List UInt8} (hE : stepD D ⟨cWrite, q, []⟩ = (E, 0)) (hr : (fateD E).what = 2) : ∃ e, writeD D q t 384 = (E, e) ∧ e ≠ 0 := by
  have he : writeE E q t 384 ≠ 0 := by
    unfold writeE roomB
    rw [show decide ((fateD E).what ≠ 2) = false by rw [hr]; rfl, Bool.false_and]
    generalize pathL q = b1, standB ⟨q, 1, t, 384⟩ = b2, upB E q = b3, (decide (kindD E q = 2) || decide (kindD E q = 3)) = b4
    cases b1 <;> cases b2 <;> cases b3 <;> cases b4 <;> decide
  unfold writeD
  rw [hE, aft_yes rfl]
  unfold refuse
  rw [if_neg he]
  exact ⟨_, rfl, he⟩
theorem sync_over {D E : Dk} {q : List UInt8} {k : Nat} (hE : stepD D ⟨cSync, q, []⟩ = (E, 0)) (hq : pathL q = true) (hq0 : q ≠ []) (hf : findN E.names q = some (en q k)) (hk : (inoOf E.inos k).kind = 1) :
    syncD D q = ({ E with inos := E.inos.set (k - 1) (syncI (inoOf E.inos k)) }, 0) := by
  have hkd : kindD E q = 1 := by
    unfold kindD kindN
    rw [if_neg hq0, hf]
    exact hk
  have he : syncE E q = 0 := by
    unfold syncE
    rw [hq, hkd]
    rfl
  unfold syncD
  rw [hE, aft_yes rfl, he]
  show (setI E q syncI, (0 : Int)) = _
  congr 1
  unfold setI
  simp only [hf]
  have h2 : ((en q k).kind.toNat - 1) = k - 1 := by
    unfold en
    simp
  rw [h2]
  rfl
def movedD (E : Dk) (p q : List UInt8) (k : Nat) : Dk :=
  { E with names := insE (delE (delE E.names p) q) (en q k), later := E.later ++ [insE (delE (delE E.names p) q) (en q k)] }
theorem replace_over {D E : Dk} {p q : List UInt8} {k : Nat} (hE : stepD D ⟨cReplace, p, q⟩ = (E, 0)) (hp : pathL p = true) (hp0 : p ≠ []) (hq : pathL q = true) (hup : parentL q = []) (hpq : q ≠ p) (hf : findN E.names p = some (en p k)) (h0 : k ≠ 0) (hk : (inoOf E.inos k).kind = 1) (hkq : kindD E q ≠ 2) :
    replaceD D p q = (movedD E p q k, 0) := by
  have hkd : kindD E p = 1 := by
    unfold kindD kindN
    rw [if_neg hp0, hf]
    exact hk
  have he : replaceE E p q = 0 := by
    unfold replaceE upB kindN
    rw [hp, hq, hkd, decide_eq_false hpq, hup, if_pos rfl, decide_eq_false hkq]
    rfl
  have hi : inoN E.names p = k := by
    unfold inoN
    rw [hf]
    rfl
  unfold replaceD
  rw [hE, aft_yes rfl, he, hi]
  show (changeD E [en p 0, en q k], (0 : Int)) = _
  congr 1
  have hw : withE E.names [en p 0, en q k] = insE (delE (delE E.names p) q) (en q k) := by
    unfold withE
    show putE (putE E.names (en p 0)) (en q k) = _
    unfold putE
    rw [if_pos (show (en p 0).kind = 0 from rfl), if_neg (show ¬ (en q (k : Int)).kind = 0 by unfold en; simp; exact h0)]
    rfl
  unfold changeD movedD
  rw [hw]
theorem flush_over {D E : Dk} (hE : stepD D ⟨cFlush, [], []⟩ = (E, 0)) : flushD D = (settleD E, 0) := by
  unfold flushD
  rw [hE, aft_yes rfl]
theorem remove_over {D E : Dk} {p : List UInt8} {k : Nat} (hE : stepD D ⟨cRemove, p, []⟩ = (E, 0)) (hp : pathL p = true) (hp0 : p ≠ []) (hf : findN E.names p = some (en p k)) (hk : (inoOf E.inos k).kind = 1) (hl : (inE E.names p).length ≤ 1) :
    removeD D p = ({ E with names := delE E.names p, later := E.later ++ [delE E.names p] }, 0) := by
  have hkd : kindD E p = 1 := by
    unfold kindD kindN
    rw [if_neg hp0, hf]
    exact hk
  have he : removeE E p = 0 := by
    unfold removeE
    rw [hp, hkd, decide_eq_false (show ¬ 1 < (inE E.names p).length by omega)]
    rfl
  unfold removeD
  rw [hE, aft_yes rfl, he]
  rfl
theorem remove_gone {D E : Dk} {p : List UInt8} (hE : stepD D ⟨cRemove, p, []⟩ = (E, 0)) (hp : pathL p = true) (hp0 : p ≠ []) (hf : findN E.names p = none) : removeD D p = (E, 74) := by
  have hkd : kindD E p = 0 := by
    unfold kindD kindN
    rw [if_neg hp0, hf]
  have he : removeE E p = 74 := by
    unfold removeE
    rw [hp, hkd]
    rfl
  unfold removeD
  rw [hE, aft_yes rfl, he]
  rfl
theorem load_yes {D E : Dk} {p : List UInt8} {k : Nat} (hE : stepD D ⟨cGet, p, []⟩ = (E, 0)) (hp : pathL p = true) (hp0 : p ≠ []) (hf : findN E.names p = some (en p k)) (hk : (inoOf E.inos k).kind = 1) :
    getD D p = (E, (⟨p, 1, (inoOf E.inos k).data, (inoOf E.inos k).mode⟩, gotS E p, 0)) ∧ loadD D p = (E, ((inoOf E.inos k).data, true, 0)) := by
  have hkd : kindD E p = 1 := by
    unfold kindD kindN
    rw [if_neg hp0, hf]
    exact hk
  have hm : missE E p = 0 := by
    unfold missE
    rw [hp, hkd, decide_eq_false hp0]
    rfl
  have hg : gotN E p = ⟨p, 1, (inoOf E.inos k).data, (inoOf E.inos k).mode⟩ := by
    unfold gotN
    rw [if_neg hp0, hf]
    unfold nodeOf en
    simp only
    rw [hk]
  have h1 : getD D p = (E, (⟨p, 1, (inoOf E.inos k).data, (inoOf E.inos k).mode⟩, gotS E p, 0)) := by
    unfold DP.getD
    rw [hE, aft_yes rfl, hm]
    show (if (0 : Int) = 0 then (E, (gotN E p, gotS E p, (0 : Int))) else _) = _
    rw [if_pos rfl, hg]
  refine ⟨h1, ?_⟩
  unfold loadD
  rw [h1]
  rfl
theorem load_no {D E : Dk} {p : List UInt8} (hE : stepD D ⟨cGet, p, []⟩ = (E, 0)) (hp : pathL p = true) (hp0 : p ≠ []) (hf : findN E.names p = none) : loadD D p = (E, ([], false, 0)) := by
  have hkd : kindD E p = 0 := by
    unfold kindD kindN
    rw [if_neg hp0, hf]
  have hm : missE E p = 74 := by
    unfold missE
    rw [hp, hkd, decide_eq_false hp0]
    rfl
  have h1 : DP.getD D p = (E, (nodeZ, stampZ, 74)) := by
    unfold DP.getD
    rw [hE, aft_yes rfl, hm]
    rfl
  unfold loadD
  rw [h1]
  rfl
end ST
end Go.Proofs.YtfbhbadcgecgmaaGreatDoor
end

section
/- Layer 10 over lists: a whole Save: on a calm disk, and with a fate. -/
namespace Go.Proofs.YtfbhbadcgecgmaaGreatDoor
open Go
namespace ST
open NP TP DP

theorem step_none (D : Dk) (c : Did) (h0 : D.off = false) (h1 : D.edits = []) (h2 : D.fates = []) : stepD D c = (nowD D c, 0) := by
  have hb : begunD D c = nowD D c := by
    unfold begunD nowD
    rw [h1]
    rfl
  have hf : fateD (begunD D c) = fateZ := by
    rw [hb]
    unfold fateD fateOf nowD
    show ((D.fates.find? _).getD fateZ) = _
    rw [h2]
    rfl
  unfold stepD
  rw [if_neg (by rw [h0]; simp), hf, hb, if_neg (by decide), if_neg (by decide)]
theorem ino_last (I : List Ino) (x : Ino) : inoOf (I ++ [x]) ((I.length + 1 : Nat) : Int) = x := by
  unfold inoOf
  rw [show (((I.length + 1 : Nat) : Int).toNat - 1) = I.length by omega]
  simp [List.getD]
theorem ino_old (I : List Ino) (x : Ino) {j : Nat} (h1 : 1 ≤ j) (h2 : j ≤ I.length) : inoOf (I ++ [x]) (j : Int) = inoOf I j := by
  unfold inoOf
  rw [show ((j : Int).toNat - 1) = j - 1 by omega]
  simp only [List.getD]
  rw [List.getElem?_append_left (by omega)]
theorem set_last (I : List Ino) (x y : Ino) : (I ++ [x]).set (I.length + 1 - 1) y = I ++ [y] := by
  rw [show I.length + 1 - 1 = I.length by omega, List.set_append_right _ _ (Nat.le_refl _), Nat.sub_self]
  rfl
/-- What a text's path has to be like: it and the path beside lie in the root. -/
structure Fine (p : List UInt8) : Prop where
  p1 : pathL p = true
  p2 : pathL (besideL p) = true
  u1 : parentL p = []
  u2 : parentL (besideL p) = []
theorem Fine.n1 {p : List UInt8} (h : Fine p) : p ≠ [] := by
  rintro rfl
  exact absurd h.p1 (by decide +kernel)
theorem Fine.n2 {p : List UInt8} : besideL p ≠ [] := by unfold besideL; simp
theorem Fine.ne {p : List UInt8} : p ≠ besideL p := fun e => by
  have := congrArg List.length e
  unfold besideL at this
  simp at this
def saveT (p : List UInt8) : List Did := [⟨cWrite, besideL p, []⟩, ⟨cSync, besideL p, []⟩, ⟨cReplace, besideL p, p⟩, ⟨cFlush, [], []⟩]
/-- The names along a Save that begins with nothing at the path beside. -/
structure Way (ns ns1 ns2 : List Nd) (p : List UInt8) (k : Nat) : Prop where
  len : ns.length < 1000
  none : findN ns (besideL p) = none
  e1 : insE (delE ns (besideL p)) (en (besideL p) (k : Nat)) = ns1
  f1 : findN ns1 (besideL p) = some (en (besideL p) (k : Nat))
  e2 : insE (delE (delE ns1 (besideL p)) p) (en p (k : Nat)) = ns2
section
variable {ns ns1 ns2 sf : List Nd} {lt : List (List Nd)} {I : List Ino} {ck : Nat} {tr : List Did} {fs : List Fate} {p t : List UInt8}
theorem st_write (hp : Fine p) (hw : Way ns ns1 ns2 p (I.length + 1)) (ht : t.length ≤ 65536)
    (hs : stepD ⟨ns, sf, lt, I, false, ck, tr, fs, []⟩ ⟨cWrite, besideL p, []⟩ = (⟨ns, sf, lt, I, false, ck + 1, tr ++ [⟨cWrite, besideL p, []⟩], fs, []⟩, 0))
    (hr : (fateD ⟨ns, sf, lt, I, false, ck + 1, tr ++ [⟨cWrite, besideL p, []⟩], fs, []⟩).what ≠ 2) :
    save1 ⟨ns, sf, lt, I, false, ck, tr, fs, []⟩ p t = (⟨ns1, sf, lt ++ [ns1], I ++ [⟨ck + 1, 1, 384, t, true⟩], false, ck + 1, tr ++ [⟨cWrite, besideL p, []⟩], fs, []⟩, 0) := by
  unfold save1
  rw [write_new hs hp.p2 Fine.n2 hp.u2 hw.none ht hw.len hr]
  rw [show (⟨ns, sf, lt, I, false, ck + 1, tr ++ [⟨cWrite, besideL p, []⟩], fs, []⟩ : Dk).names = ns from rfl, show (⟨ns, sf, lt, I, false, ck + 1, tr ++ [⟨cWrite, besideL p, []⟩], fs, []⟩ : Dk).inos = I from rfl, hw.e1]
  rfl
theorem st_sync (hp : Fine p) (hw : Way ns ns1 ns2 p (I.length + 1)) {x : Ino} (hx : x.kind = 1)
    (hs : stepD ⟨ns1, sf, lt, I ++ [x], false, ck, tr, fs, []⟩ ⟨cSync, besideL p, []⟩ = (⟨ns1, sf, lt, I ++ [x], false, ck + 1, tr ++ [⟨cSync, besideL p, []⟩], fs, []⟩, 0)) :
    syncD ⟨ns1, sf, lt, I ++ [x], false, ck, tr, fs, []⟩ (besideL p) = (⟨ns1, sf, lt, I ++ [syncI x], false, ck + 1, tr ++ [⟨cSync, besideL p, []⟩], fs, []⟩, 0) := by
  rw [sync_over hs hp.p2 Fine.n2 hw.f1 (by show (inoOf (I ++ [x]) _).kind = 1; rw [ino_last]; exact hx)]
  show (Dk.mk ns1 sf lt ((I ++ [x]).set (I.length + 1 - 1) (syncI (inoOf (I ++ [x]) _))) false (ck + 1) _ fs [], (0 : Int)) = _
  rw [ino_last, set_last]
theorem st_replace (hp : Fine p) (hw : Way ns ns1 ns2 p (I.length + 1)) {x : Ino} (hx : x.kind = 1)
    (hs : stepD ⟨ns1, sf, lt, I ++ [x], false, ck, tr, fs, []⟩ ⟨cReplace, besideL p, p⟩ = (⟨ns1, sf, lt, I ++ [x], false, ck + 1, tr ++ [⟨cReplace, besideL p, p⟩], fs, []⟩, 0)) (hk : kindN (I ++ [x]) ns1 p ≠ 2) :
    replaceD ⟨ns1, sf, lt, I ++ [x], false, ck, tr, fs, []⟩ (besideL p) p = (⟨ns2, sf, lt ++ [ns2], I ++ [x], false, ck + 1, tr ++ [⟨cReplace, besideL p, p⟩], fs, []⟩, 0) := by
  rw [replace_over hs hp.p2 Fine.n2 hp.p1 hp.u1 Fine.ne hw.f1 (by omega) (by show (inoOf (I ++ [x]) _).kind = 1; rw [ino_last]; exact hx) hk]
  show (Dk.mk (insE (delE (delE ns1 _) _) _) sf (lt ++ [insE (delE (delE ns1 _) _) _]) (I ++ [x]) false (ck + 1) _ fs [], (0 : Int)) = _
  rw [hw.e2]
/-- A Save on a calm disk, with nothing at the path beside. -/
theorem save_calm (hp : Fine p) (hw : Way ns ns1 ns2 p (I.length + 1)) (ht : t.length ≤ 65536) (hk : ∀ x : Ino, kindN (I ++ [x]) ns1 p ≠ 2) :
    saveD ⟨ns, sf, lt, I, false, ck, tr, [], []⟩ p t = (⟨ns2, ns2, [], I ++ [⟨ck + 1, 1, 384, t, false⟩], false, ck + 4, tr ++ saveT p, [], []⟩, 0) := by
  have h1 := st_write (sf := sf) (lt := lt) (ck := ck) (tr := tr) (fs := []) hp hw ht (step_none _ _ rfl rfl rfl) (now_calm ⟨ns, sf, lt, I, false, ck, tr, [], []⟩ _ rfl)
  have h2 := (show save2 ⟨ns, sf, lt, I, false, ck, tr, [], []⟩ p t = _ by unfold save2; rw [h1, aft_yes rfl]).trans (st_sync hp hw rfl (step_none _ _ rfl rfl rfl))
  have h3 := (show save3 ⟨ns, sf, lt, I, false, ck, tr, [], []⟩ p t = _ by unfold save3; rw [h2, aft_yes rfl]).trans (st_replace hp hw rfl (step_none _ _ rfl rfl rfl) (hk _))
  unfold saveD
  rw [h3, aft_yes rfl]
  show flushD _ = _
  rw [flush_over (step_none _ _ rfl rfl rfl)]
  unfold settleD nowD saveT syncI
  simp only [List.append_assoc, List.cons_append, List.nil_append]
/-- What a Save with a fate leaves. -/
def Left (I : List Ino) (ns ns1 ns2 : List Nd) (t : List UInt8) (D : Dk) (e : Int) : Prop :=
  D.edits = [] ∧ ((D.names = ns ∧ (D.inos = I ∨ ∃ x : Ino, x.kind = 1 ∧ D.inos = I ++ [x]) ∧ e ≠ 0) ∨ (D.names = ns1 ∧ (∃ x : Ino, x.kind = 1 ∧ D.inos = I ++ [x]) ∧ e ≠ 0) ∨ (D.names = ns2 ∧ ∃ x : Ino, x.kind = 1 ∧ x.data = t ∧ D.inos = I ++ [x]))
theorem clean_id {I : List Ino} (h : ∀ i ∈ I, i.dirty = false) (torn : Int) : I.map (clean torn) = I := by
  have h2 : I.map (clean torn) = I.map id := List.map_congr_left fun i hi => by
    unfold clean
    rw [h i hi]
    rfl
  rw [h2, List.map_id]
theorem clean_snoc {I : List Ino} (h : ∀ i ∈ I, i.dirty = false) (torn : Int) (x : Ino) : (I ++ [x]).map (clean torn) = I ++ [clean torn x] := by
  rw [List.map_append, clean_id h]
  rfl
theorem clean_kind (torn : Int) (x : Ino) : (clean torn x).kind = x.kind := by
  unfold clean
  split <;> rfl
theorem clean_off (torn : Int) (x : Ino) (h : x.dirty = false) : clean torn x = x := by
  unfold clean
  rw [h]
  rfl
theorem n75 : (75 : Int) ≠ 0 := by decide
theorem n70 : (70 : Int) ≠ 0 := by decide
theorem save_fate (f : Fate) (hp : Fine p) (hw : Way ns ns1 ns2 p (I.length + 1)) (ht : t.length ≤ 65536) (hk : ∀ x : Ino, kindN (I ++ [x]) ns1 p ≠ 2) (hc : ∀ i ∈ I, i.dirty = false) :
    Left I ns ns1 ns2 t (saveD ⟨ns, ns, [], I, false, ck, [], [f], []⟩ p t).1 (saveD ⟨ns, ns, [], I, false, ck, [], [f], []⟩ p t).2 := by
  have s0 := step_fate ⟨ns, ns, [], I, false, ck, [], [f], []⟩ ⟨cWrite, besideL p, []⟩ f rfl rfl rfl
  have f0 := now_fate ⟨ns, ns, [], I, false, ck, [], [f], []⟩ ⟨cWrite, besideL p, []⟩ f rfl
  have g0 := now_full ⟨ns, ns, [], I, false, ck, [], [f], []⟩ ⟨cWrite, besideL p, []⟩ f rfl
  rw [show (((⟨ns, ns, [], I, false, ck, [], [f], []⟩ : Dk).trace.length : Nat) : Int) = 0 from rfl] at s0 f0 g0
  have one : ∀ {E : Dk} {e : Int}, e ≠ 0 → save1 ⟨ns, ns, [], I, false, ck, [], [f], []⟩ p t = (E, e) → saveD ⟨ns, ns, [], I, false, ck, [], [f], []⟩ p t = (E, e) := fun he h => by
    unfold saveD save3 save2
    rw [h]
    rw [aft_no (r := (_, _)) he, aft_no (r := (_, _)) he, aft_no (r := (_, _)) he]
  by_cases a0 : f.at_ = 0 ∧ f.what = 3
  · rw [if_pos a0] at s0
    have h1 : save1 ⟨ns, ns, [], I, false, ck, [], [f], []⟩ p t = (crashD (nowD ⟨ns, ns, [], I, false, ck, [], [f], []⟩ ⟨cWrite, besideL p, []⟩) f.keep f.torn, 75) := by
      unfold save1 writeD
      rw [s0, aft_no (by exact n75)]
    rw [one (n75) h1]
    refine ⟨rfl, .inl ⟨?_, .inl ?_, n75⟩⟩
    · show keptD _ _ = ns
      unfold keptD keepN
      rw [show (nowD ⟨ns, ns, [], I, false, ck, [], [f], []⟩ ⟨cWrite, besideL p, []⟩).later.length = 0 from rfl, Nat.min_zero, if_pos rfl]
      rfl
    · show I.map (clean _) = I
      exact clean_id hc _
  rw [if_neg a0] at s0
  by_cases a1 : f.at_ = 0 ∧ f.what = 1
  · rw [if_pos a1] at s0
    have h1 : save1 ⟨ns, ns, [], I, false, ck, [], [f], []⟩ p t = (nowD ⟨ns, ns, [], I, false, ck, [], [f], []⟩ ⟨cWrite, besideL p, []⟩, 70) := by
      unfold save1 writeD
      rw [s0, aft_no (by exact n70)]
    rw [one (n70) h1]
    exact ⟨rfl, .inl ⟨rfl, .inl rfl, n70⟩⟩
  rw [if_neg a1] at s0
  by_cases a2 : f.at_ = 0 ∧ f.what = 2
  · obtain ⟨e, h1, he⟩ := write_full (t := t) s0 (g0 a2)
    rw [one he h1]
    exact ⟨rfl, .inl ⟨rfl, .inl rfl, he⟩⟩
  have h1 := st_write (sf := ns) (lt := []) (ck := ck) (tr := []) (fs := [f]) (t := t) hp hw ht s0 (f0 a2)
  clear s0 f0 g0 one
  have two : ∀ {E : Dk} {e : Int}, e ≠ 0 → save2 ⟨ns, ns, [], I, false, ck, [], [f], []⟩ p t = (E, e) → saveD ⟨ns, ns, [], I, false, ck, [], [f], []⟩ p t = (E, e) := fun he h => by
    unfold saveD save3
    rw [h]
    rw [aft_no (r := (_, _)) he, aft_no (r := (_, _)) he]
  have kept1 : ∀ (D : Dk) (b : Int), D.safe = ns → D.later = [ns1] → keptD D b = ns ∨ keptD D b = ns1 := fun D b h1 h2 => by
    unfold keptD keepN
    rw [h1, h2]
    by_cases hz : b.toNat = 0
    · rw [hz, if_pos (by simp)]
      exact .inl rfl
    · rw [show min b.toNat ([ns1] : List (List Nd)).length = 1 by simp; omega, if_neg (by omega)]
      exact .inr rfl
  obtain ⟨D1, hD1⟩ : ∃ D1, D1 = (⟨ns1, ns, [] ++ [ns1], I ++ [⟨ck + 1, 1, 384, t, true⟩], false, ck + 1, [] ++ [⟨cWrite, besideL p, []⟩], [f], []⟩ : Dk) := ⟨_, rfl⟩
  have s1 := step_fate D1 ⟨cSync, besideL p, []⟩ f (by rw [hD1]) (by rw [hD1]) (by rw [hD1])
  rw [show (D1.trace.length : Int) = 1 by rw [hD1]; rfl] at s1
  have h2' : save2 ⟨ns, ns, [], I, false, ck, [], [f], []⟩ p t = syncD D1 (besideL p) := by
    unfold save2
    rw [h1, aft_yes rfl, hD1]
  by_cases b0 : f.at_ = 1 ∧ f.what = 3
  · rw [if_pos b0] at s1
    have h2 : save2 ⟨ns, ns, [], I, false, ck, [], [f], []⟩ p t = (crashD (nowD D1 ⟨cSync, besideL p, []⟩) f.keep f.torn, 75) := by
      rw [h2']
      unfold syncD
      rw [s1, aft_no (by exact n75)]
    rw [two (n75) h2]
    have hi : (crashD (nowD D1 ⟨cSync, besideL p, []⟩) f.keep f.torn).inos = I ++ [clean f.torn ⟨ck + 1, 1, 384, t, true⟩] := by
      show (nowD D1 _).inos.map (clean _) = _
      rw [hD1]
      exact clean_snoc hc _ _
    have hx : (clean f.torn ⟨ck + 1, 1, 384, t, true⟩ : Ino).kind = 1 := clean_kind _ _
    rcases kept1 (nowD D1 ⟨cSync, besideL p, []⟩) f.keep (by rw [hD1]; rfl) (by rw [hD1]; rfl) with h | h
    · exact ⟨by rw [hD1]; rfl, .inl ⟨h, .inr ⟨_, hx, hi⟩, n75⟩⟩
    · exact ⟨by rw [hD1]; rfl, .inr (.inl ⟨h, ⟨_, hx, hi⟩, n75⟩)⟩
  rw [if_neg b0] at s1
  by_cases b1 : f.at_ = 1 ∧ f.what = 1
  · rw [if_pos b1] at s1
    have h2 : save2 ⟨ns, ns, [], I, false, ck, [], [f], []⟩ p t = (nowD D1 ⟨cSync, besideL p, []⟩, 70) := by
      rw [h2']
      unfold syncD
      rw [s1, aft_no (by exact n70)]
    rw [two (n70) h2, hD1]
    exact ⟨rfl, .inr (.inl ⟨rfl, ⟨_, rfl, rfl⟩, n70⟩)⟩
  rw [if_neg b1] at s1
  rw [hD1] at s1 h2'
  have h2 := h2'.trans (st_sync hp hw rfl s1)
  clear s1 h2' two hD1 D1
  have three : ∀ {E : Dk} {e : Int}, e ≠ 0 → save3 ⟨ns, ns, [], I, false, ck, [], [f], []⟩ p t = (E, e) → saveD ⟨ns, ns, [], I, false, ck, [], [f], []⟩ p t = (E, e) := fun he h => by
    unfold saveD
    rw [h]
    rw [aft_no (r := (_, _)) he]
  obtain ⟨D2, hD2⟩ : ∃ D2, D2 = (⟨ns1, ns, [] ++ [ns1], I ++ [syncI ⟨ck + 1, 1, 384, t, true⟩], false, ck + 1 + 1, [] ++ [⟨cWrite, besideL p, []⟩] ++ [⟨cSync, besideL p, []⟩], [f], []⟩ : Dk) := ⟨_, rfl⟩
  have s2 := step_fate D2 ⟨cReplace, besideL p, p⟩ f (by rw [hD2]) (by rw [hD2]) (by rw [hD2])
  rw [show (D2.trace.length : Int) = 2 by rw [hD2]; rfl] at s2
  have h3' : save3 ⟨ns, ns, [], I, false, ck, [], [f], []⟩ p t = replaceD D2 (besideL p) p := by
    unfold save3
    rw [h2, aft_yes rfl, hD2]
  by_cases c0 : f.at_ = 2 ∧ f.what = 3
  · rw [if_pos c0] at s2
    have h3 : save3 ⟨ns, ns, [], I, false, ck, [], [f], []⟩ p t = (crashD (nowD D2 ⟨cReplace, besideL p, p⟩) f.keep f.torn, 75) := by
      rw [h3']
      unfold replaceD
      rw [s2, aft_no (by exact n75)]
    rw [three (n75) h3]
    have hi : (crashD (nowD D2 ⟨cReplace, besideL p, p⟩) f.keep f.torn).inos = I ++ [clean f.torn (syncI ⟨ck + 1, 1, 384, t, true⟩)] := by
      show (nowD D2 _).inos.map (clean _) = _
      rw [hD2]
      exact clean_snoc hc _ _
    have hx : (clean f.torn (syncI ⟨ck + 1, 1, 384, t, true⟩) : Ino).kind = 1 := clean_kind _ _
    rcases kept1 (nowD D2 ⟨cReplace, besideL p, p⟩) f.keep (by rw [hD2]; rfl) (by rw [hD2]; rfl) with h | h
    · exact ⟨by rw [hD2]; rfl, .inl ⟨h, .inr ⟨_, hx, hi⟩, n75⟩⟩
    · exact ⟨by rw [hD2]; rfl, .inr (.inl ⟨h, ⟨_, hx, hi⟩, n75⟩)⟩
  rw [if_neg c0] at s2
  by_cases c1 : f.at_ = 2 ∧ f.what = 1
  · rw [if_pos c1] at s2
    have h3 : save3 ⟨ns, ns, [], I, false, ck, [], [f], []⟩ p t = (nowD D2 ⟨cReplace, besideL p, p⟩, 70) := by
      rw [h3']
      unfold replaceD
      rw [s2, aft_no (by exact n70)]
    rw [three (n70) h3, hD2]
    exact ⟨rfl, .inr (.inl ⟨rfl, ⟨_, rfl, rfl⟩, n70⟩)⟩
  rw [if_neg c1] at s2
  rw [hD2] at s2 h3'
  have h3 := h3'.trans (st_replace hp hw rfl s2 (hk _))
  clear s2 h3' three hD2 D2
  obtain ⟨D3, hD3⟩ : ∃ D3, D3 = (⟨ns2, ns, [] ++ [ns1] ++ [ns2], I ++ [syncI ⟨ck + 1, 1, 384, t, true⟩], false, ck + 1 + 1 + 1, [] ++ [⟨cWrite, besideL p, []⟩] ++ [⟨cSync, besideL p, []⟩] ++ [⟨cReplace, besideL p, p⟩], [f], []⟩ : Dk) := ⟨_, rfl⟩
  have s3 := step_fate D3 ⟨cFlush, [], []⟩ f (by rw [hD3]) (by rw [hD3]) (by rw [hD3])
  have h4' : saveD ⟨ns, ns, [], I, false, ck, [], [f], []⟩ p t = flushD D3 := by
    unfold saveD
    rw [h3, aft_yes rfl, hD3]
  rw [h4']
  unfold flushD
  rw [s3]
  split
  · rw [aft_no (by exact n75)]
    have hi : (crashD (nowD D3 ⟨cFlush, [], []⟩) f.keep f.torn).inos = I ++ [syncI ⟨ck + 1, 1, 384, t, true⟩] := by
      show (nowD D3 ⟨cFlush, [], []⟩).inos.map (clean _) = _
      rw [hD3]
      show (I ++ [syncI ⟨ck + 1, 1, 384, t, true⟩]).map (clean _) = _
      rw [clean_snoc hc, clean_off _ _ rfl]
    have hE : (crashD (nowD D3 ⟨cFlush, [], []⟩) f.keep f.torn).edits = [] := by
      show (nowD D3 ⟨cFlush, [], []⟩).edits = []
      rw [hD3]; rfl
    have hkp : keptD (nowD D3 ⟨cFlush, [], []⟩) f.keep = ns ∨ keptD (nowD D3 ⟨cFlush, [], []⟩) f.keep = ns1 ∨ keptD (nowD D3 ⟨cFlush, [], []⟩) f.keep = ns2 := by
      unfold keptD keepN
      rw [show (nowD D3 ⟨cFlush, [], []⟩).later = [ns1, ns2] by rw [hD3]; rfl, show (nowD D3 ⟨cFlush, [], []⟩).safe = ns by rw [hD3]; rfl, show ([ns1, ns2] : List (List Nd)).length = 2 from rfl]
      rcases (by omega : min f.keep.toNat 2 = 0 ∨ min f.keep.toNat 2 = 1 ∨ min f.keep.toNat 2 = 2) with h | h | h
      · rw [h]; exact .inl rfl
      · rw [h]; exact .inr (.inl rfl)
      · rw [h]; exact .inr (.inr rfl)
    rcases hkp with h | h | h
    · exact ⟨hE, .inl ⟨h, .inr ⟨_, rfl, hi⟩, n75⟩⟩
    · exact ⟨hE, .inr (.inl ⟨h, ⟨_, rfl, hi⟩, n75⟩)⟩
    · exact ⟨hE, .inr (.inr ⟨h, _, rfl, rfl, hi⟩)⟩
  · split
    · rw [aft_no (by exact n70), hD3]
      exact ⟨rfl, .inr (.inr ⟨rfl, _, rfl, rfl, rfl⟩)⟩
    · rw [aft_yes rfl, hD3]
      exact ⟨rfl, .inr (.inr ⟨rfl, _, rfl, rfl, rfl⟩)⟩
end
end ST
end Go.Proofs.YtfbhbadcgecgmaaGreatDoor
end

section
/- Layer 10 over lists: what the three statements without the document's answer ask. -/
namespace Go.Proofs.YtfbhbadcgecgmaaGreatDoor
open Go
namespace ST
open NP TP DP

theorem ino_set (I : List Ino) (x : Ino) {k : Nat} (h1 : 1 ≤ k) (h2 : k ≤ I.length) : inoOf (I.set (k - 1) x) (k : Int) = x := by
  unfold inoOf
  rw [show ((k : Int).toNat - 1) = k - 1 by omega]
  simp only [List.getD]
  rw [List.getElem?_set_self (by omega)]
  rfl
/-- A Save on a calm disk, with a file at the path beside. -/
theorem save_over {ns ns2 sf : List Nd} {lt : List (List Nd)} {I : List Ino} {ck : Nat} {tr : List Did} {p t : List UInt8} {k : Nat} (hp : Fine p) (hf : findN ns (besideL p) = some (en (besideL p) k)) (h1 : 1 ≤ k) (h2 : k ≤ I.length) (hi : (inoOf I k).kind = 1) (ht : t.length ≤ 65536)
    (he : insE (delE (delE ns (besideL p)) p) (en p k) = ns2) (hk : ∀ x y : Ino, kindN ((I.set (k - 1) x).set (k - 1) y) ns p ≠ 2) :
    ∃ D, saveD ⟨ns, sf, lt, I, false, ck, tr, [], []⟩ p t = (D, 0) ∧ D.names = ns2 := by
  obtain ⟨x1, hx1⟩ : ∃ x : Ino, x = ⟨ck + 1, 1, 384, t, true⟩ := ⟨_, rfl⟩
  have hk1 : x1.kind = 1 := by rw [hx1]
  have w1 : save1 ⟨ns, sf, lt, I, false, ck, tr, [], []⟩ p t = (⟨ns, sf, lt, I.set (k - 1) x1, false, ck + 1, tr ++ [⟨cWrite, besideL p, []⟩], [], []⟩, 0) := by
    rw [hx1]
    exact write_over (step_none ⟨ns, sf, lt, I, false, ck, tr, [], []⟩ ⟨cWrite, besideL p, []⟩ rfl rfl rfl) hp.p2 Fine.n2 hp.u2 hf hi ht (now_calm _ _ rfl)
  have i1 : inoOf (I.set (k - 1) x1) (k : Int) = x1 := ino_set I x1 h1 h2
  have w2 : save2 ⟨ns, sf, lt, I, false, ck, tr, [], []⟩ p t = (⟨ns, sf, lt, (I.set (k - 1) x1).set (k - 1) (syncI x1), false, ck + 1 + 1, tr ++ [⟨cWrite, besideL p, []⟩] ++ [⟨cSync, besideL p, []⟩], [], []⟩, 0) := by
    unfold save2
    rw [w1, aft_yes rfl]
    have hs : stepD ⟨ns, sf, lt, I.set (k - 1) x1, false, ck + 1, tr ++ [⟨cWrite, besideL p, []⟩], [], []⟩ ⟨cSync, besideL p, []⟩ = (⟨ns, sf, lt, I.set (k - 1) x1, false, ck + 1 + 1, tr ++ [⟨cWrite, besideL p, []⟩] ++ [⟨cSync, besideL p, []⟩], [], []⟩, 0) := step_none _ _ rfl rfl rfl
    have h9 := sync_over (k := k) hs hp.p2 Fine.n2 hf (by show (inoOf (I.set (k - 1) x1) k).kind = 1; rw [i1]; exact hk1)
    simp only [i1] at h9
    exact h9
  have i2 : inoOf ((I.set (k - 1) x1).set (k - 1) (syncI x1)) (k : Int) = syncI x1 := ino_set _ _ h1 (by rw [List.length_set]; exact h2)
  obtain ⟨D2, hD2⟩ : ∃ D2 : Dk, D2 = ⟨ns, sf, lt, (I.set (k - 1) x1).set (k - 1) (syncI x1), false, ck + 1 + 1, tr ++ [⟨cWrite, besideL p, []⟩] ++ [⟨cSync, besideL p, []⟩], [], []⟩ := ⟨_, rfl⟩
  have hs2 := step_none D2 ⟨cReplace, besideL p, p⟩ (by rw [hD2]) (by rw [hD2]) (by rw [hD2])
  have hn2 : (nowD D2 ⟨cReplace, besideL p, p⟩).names = ns := by rw [hD2]; rfl
  have hi2 : (nowD D2 ⟨cReplace, besideL p, p⟩).inos = (I.set (k - 1) x1).set (k - 1) (syncI x1) := by rw [hD2]; rfl
  rw [← hD2] at w2
  have w3 : save3 ⟨ns, sf, lt, I, false, ck, tr, [], []⟩ p t = (movedD (nowD D2 ⟨cReplace, besideL p, p⟩) (besideL p) p k, 0) := by
    unfold save3
    rw [w2, aft_yes rfl]
    refine replace_over (k := k) hs2 hp.p2 Fine.n2 hp.p1 hp.u1 Fine.ne (by rw [hn2]; exact hf) (by omega) (by rw [hi2, i2]; exact hk1) ?_
    unfold kindD
    rw [hi2, hn2]
    exact hk _ _
  obtain ⟨D3, hD3⟩ : ∃ D3 : Dk, D3 = movedD (nowD D2 ⟨cReplace, besideL p, p⟩) (besideL p) p k := ⟨_, rfl⟩
  have hs3 := step_none D3 ⟨cFlush, [], []⟩ (by rw [hD3, hD2]; rfl) (by rw [hD3, hD2]; rfl) (by rw [hD3, hD2]; rfl)
  rw [← hD3] at w3
  have hn3 : (settleD (nowD D3 ⟨cFlush, [], []⟩)).names = ns2 := by
    show D3.names = ns2
    rw [hD3]
    show insE (delE (delE (nowD D2 _).names (besideL p)) p) (en p k) = ns2
    rw [hn2]
    exact he
  refine ⟨settleD (nowD D3 ⟨cFlush, [], []⟩), ?_, hn3⟩
  unfold saveD
  rw [w3, aft_yes rfl]
  exact flush_over hs3
def pA : List UInt8 := [97]
def pB : List UInt8 := [98]
theorem fine_a : Fine pA := ⟨by decide +kernel, by decide +kernel, by decide +kernel, by decide +kernel⟩
theorem fine_b : Fine pB := ⟨by decide +kernel, by decide +kernel, by decide +kernel, by decide +kernel⟩
section
variable {sf : List Nd} {lt : List (List Nd)} {I : List Ino} {ck : Nat} {tr : List Did}
/-- A file is read on a calm disk. -/
theorem load_calm {ns : List Nd} {p : List UInt8} {k : Nat} (hp : Fine p) (hf : findN ns p = some (en p k)) (hk : (inoOf I k).kind = 1) :
    loadD ⟨ns, sf, lt, I, false, ck, tr, [], []⟩ p = (⟨ns, sf, lt, I, false, ck + 1, tr ++ [⟨cGet, p, []⟩], [], []⟩, ((inoOf I k).data, true, 0)) ∧
    ∃ n s, DP.getD ⟨ns, sf, lt, I, false, ck, tr, [], []⟩ p = (⟨ns, sf, lt, I, false, ck + 1, tr ++ [⟨cGet, p, []⟩], [], []⟩, (n, s, 0)) ∧ n.data = (inoOf I k).data := by
  obtain ⟨h1, h2⟩ := load_yes (k := k) (step_none ⟨ns, sf, lt, I, false, ck, tr, [], []⟩ ⟨cGet, p, []⟩ rfl rfl rfl) hp.p1 hp.n1 hf hk
  exact ⟨h2, _, _, h1, rfl⟩
theorem load_gone {ns : List Nd} {p : List UInt8} (hp : Fine p) (hf : findN ns p = none) :
    loadD ⟨ns, sf, lt, I, false, ck, tr, [], []⟩ p = (⟨ns, sf, lt, I, false, ck + 1, tr ++ [⟨cGet, p, []⟩], [], []⟩, ([], false, 0)) :=
  load_no (step_none ⟨ns, sf, lt, I, false, ck, tr, [], []⟩ ⟨cGet, p, []⟩ rfl rfl rfl) hp.p1 hp.n1 hf
theorem clear_calm {ns : List Nd} {p : List UInt8} {k : Nat} (hp : Fine p) (hf : findN ns p = some (en p k)) (hk : (inoOf I k).kind = 1) (hl : (inE ns p).length ≤ 1) :
    clearD ⟨ns, sf, lt, I, false, ck, tr, [], []⟩ p = (⟨delE ns p, delE ns p, [], I, false, ck + 1 + 1, tr ++ [⟨cRemove, p, []⟩] ++ [⟨cFlush, [], []⟩], [], []⟩, 0) := by
  have h1 := remove_over (k := k) (step_none ⟨ns, sf, lt, I, false, ck, tr, [], []⟩ ⟨cRemove, p, []⟩ rfl rfl rfl) hp.p1 hp.n1 hf hk hl
  have h2 := (show clear2 ⟨ns, sf, lt, I, false, ck, tr, [], []⟩ p = _ by unfold clear2; rw [h1, aft_yes rfl]).trans (flush_over (step_none _ _ rfl rfl rfl))
  unfold clearD
  rw [h2]
  rfl
theorem clear_gone {ns : List Nd} {p : List UInt8} (hp : Fine p) (hf : findN ns p = none) :
    clearD ⟨ns, sf, lt, I, false, ck, tr, [], []⟩ p = (⟨ns, sf, lt, I, false, ck + 1, tr ++ [⟨cRemove, p, []⟩], [], []⟩, 0) := by
  have h1 := remove_gone (step_none ⟨ns, sf, lt, I, false, ck, tr, [], []⟩ ⟨cRemove, p, []⟩ rfl rfl rfl) hp.p1 hp.n1 hf
  have h2 : clear2 ⟨ns, sf, lt, I, false, ck, tr, [], []⟩ p = (nowD ⟨ns, sf, lt, I, false, ck, tr, [], []⟩ ⟨cRemove, p, []⟩, 74) := by
    unfold clear2
    rw [h1, aft_no (by show (74 : Int) ≠ 0; decide)]
  unfold clearD
  rw [h2]
  rfl
end
def otherI : Ino := ⟨0, 1, 0, [111, 116, 104, 101, 114], false⟩
def oldI (o : List UInt8) : Ino := ⟨1, 1, 384, o, false⟩
def whD1 (o : List UInt8) : Dk := ⟨[en pA 2, en pB 1], [en pA 2, en pB 1], [], [otherI, oldI o], false, 4, saveT pA, [], []⟩
theorem wh_way1 : Way [en pB 1] [en (besideL pA) 2, en pB 1] [en pA 2, en pB 1] pA 2 := ⟨by decide, rfl, rfl, rfl, rfl⟩
theorem wh_way2 : Way [en pA 2, en pB 1] [en pA 2, en (besideL pA) 3, en pB 1] [en pA 3, en pB 1] pA 3 := ⟨by decide, rfl, rfl, rfl, rfl⟩
def otherN : Nd := ⟨pB, 1, [111, 116, 104, 101, 114], 0⟩
theorem st_whole1 (o : List UInt8) (ho : o.length ≤ 65536) : saveD (newD [otherN]) pA o = (whD1 o, 0) :=
  save_calm (ns := [en pB 1]) (sf := [en pB 1]) (lt := []) (I := [otherI]) (ck := 0) (tr := []) (p := pA) (t := o) fine_a wh_way1 ho (fun x => by show (0 : Int) ≠ 2; decide)
/-- StoreWhole over lists. -/
theorem st_whole (o t : List UInt8) (f : Fate) (ht : t.length ≤ 65536) :
    ∃ D3 e D5 s D6 n st D7, saveD (bootD (whD1 o) [f] []) pA t = (D3, e) ∧ loadD (bootD D3 [] []) pA = (D5, (s, true, 0)) ∧ DP.getD D5 pB = (D6, (n, st, 0)) ∧ n.data = [111, 116, 104, 101, 114] ∧ (s = o ∨ s = t) ∧ (e = 0 → s = t) ∧
      saveD D6 pA [116, 104, 105, 114, 100] = (D7, 0) ∧ D7.names.length = 2 := by
  have hL := save_fate (I := [otherI, oldI o]) (ck := 4) (t := t) f fine_a wh_way2 ht (fun x => by show (1 : Int) ≠ 2; decide) (fun i hi => by
    simp only [List.mem_cons, List.not_mem_nil, or_false] at hi
    rcases hi with rfl | rfl <;> rfl)
  obtain ⟨D3, e, hS⟩ : ∃ D e, saveD ⟨[en pA 2, en pB 1], [en pA 2, en pB 1], [], [otherI, oldI o], false, 4, [], [f], []⟩ pA t = (D, e) := ⟨_, _, rfl⟩
  rw [hS] at hL
  obtain ⟨ns, sf, lt, I, off, ck, tr, fs, es⟩ := D3
  obtain ⟨-, hL⟩ := hL
  simp only at hL
  rcases hL with ⟨rfl, hI, he⟩ | ⟨rfl, ⟨x, hx, rfl⟩, he⟩ | ⟨rfl, x, hx, hxt, rfl⟩
  · have hI2 : inoOf I 2 = oldI o ∧ inoOf I 1 = otherI ∧ ∀ x, kindN (I ++ [x]) (insE (delE [en pA 2, en pB 1] (besideL pA)) (en (besideL pA) (I.length + 1 : Nat))) pA ≠ 2 := by
      rcases hI with rfl | ⟨x, _, rfl⟩
      · exact ⟨rfl, rfl, fun x => by show (1 : Int) ≠ 2; decide⟩
      · exact ⟨rfl, rfl, fun x => by show (1 : Int) ≠ 2; decide⟩
    obtain ⟨l1, -⟩ := load_calm (sf := sf) (lt := lt) (I := I) (ck := ck) (tr := []) (ns := [en pA 2, en pB 1]) (k := 2) fine_a rfl (by show (inoOf I 2).kind = 1; rw [hI2.1]; rfl)
    obtain ⟨-, n, st, l2, l3⟩ := load_calm (sf := sf) (lt := lt) (I := I) (ck := ck + 1) (tr := [] ++ [⟨cGet, pA, []⟩]) (ns := [en pA 2, en pB 1]) (k := 1) fine_b rfl (by show (inoOf I 1).kind = 1; rw [hI2.2.1]; rfl)
    refine ⟨_, e, _, _, _, n, st, _, hS, l1, l2, by rw [l3]; show (inoOf I 1).data = _; rw [hI2.2.1]; rfl, .inl (by show (inoOf I 2).data = o; rw [hI2.1]; rfl), fun h => absurd h he, save_calm (ns2 := [en pA (I.length + 1 : Nat), en pB 1]) fine_a ⟨by decide, rfl, rfl, ?_, ?_⟩ (by decide) hI2.2.2, rfl⟩
    · rcases hI with rfl | ⟨x, _, rfl⟩ <;> rfl
    · rcases hI with rfl | ⟨x, _, rfl⟩ <;> rfl
  · obtain ⟨l1, -⟩ := load_calm (sf := sf) (lt := lt) (I := [otherI, oldI o] ++ [x]) (ck := ck) (tr := []) (ns := [en pA 2, en (besideL pA) 3, en pB 1]) (k := 2) fine_a rfl rfl
    obtain ⟨-, n, st, l2, l3⟩ := load_calm (sf := sf) (lt := lt) (I := [otherI, oldI o] ++ [x]) (ck := ck + 1) (tr := [] ++ [⟨cGet, pA, []⟩]) (ns := [en pA 2, en (besideL pA) 3, en pB 1]) (k := 1) fine_b rfl rfl
    obtain ⟨D7, l4, l5⟩ := save_over (sf := sf) (lt := lt) (ck := ck + 1 + 1) (tr := [] ++ [⟨cGet, pA, []⟩] ++ [⟨cGet, pB, []⟩]) (ns := [en pA 2, en (besideL pA) 3, en pB 1]) (ns2 := [en pA 3, en pB 1]) (I := [otherI, oldI o] ++ [x]) (p := pA) (t := [116, 104, 105, 114, 100]) (k := 3) fine_a rfl (by decide) (by simp) hx (by decide) rfl (fun x y => by show (1 : Int) ≠ 2; decide)
    exact ⟨_, e, _, _, _, n, st, D7, hS, l1, l2, l3, .inl rfl, fun h => absurd h he, l4, by rw [l5]; rfl⟩
  · obtain ⟨l1, -⟩ := load_calm (sf := sf) (lt := lt) (I := [otherI, oldI o] ++ [x]) (ck := ck) (tr := []) (ns := [en pA 3, en pB 1]) (k := 3) fine_a rfl hx
    obtain ⟨-, n, st, l2, l3⟩ := load_calm (sf := sf) (lt := lt) (I := [otherI, oldI o] ++ [x]) (ck := ck + 1) (tr := [] ++ [⟨cGet, pA, []⟩]) (ns := [en pA 3, en pB 1]) (k := 1) fine_b rfl rfl
    exact ⟨_, e, _, _, _, n, st, _, hS, l1, l2, l3, .inr hxt, fun _ => hxt, save_calm (ns1 := [en pA 3, en (besideL pA) 4, en pB 1]) (ns2 := [en pA 4, en pB 1]) fine_a ⟨by decide, rfl, rfl, rfl, rfl⟩ (by decide) (fun y => by show x.kind ≠ 2; rw [hx]; decide), rfl⟩
/- StoreStays -/
/-- A disk on which so many texts were saved at a, the last one of them this. -/
structure Kept (k : Nat) (l : List UInt8) (ns : List Nd) (I : List Ino) : Prop where
  names : ns = if k = 0 then [] else [en pA k]
  len : I.length = k
  clean : ∀ i ∈ I, i.dirty = false
  last : k ≠ 0 → (inoOf I k).kind = 1 ∧ (inoOf I k).data = l
theorem Kept.zero (l : List UInt8) : Kept 0 l [] [] := ⟨rfl, rfl, (fun i hi => by cases hi), fun h => absurd rfl h⟩
def calmD (ns : List Nd) (I : List Ino) (ck : Nat) (tr : List Did) : Dk := ⟨ns, ns, [], I, false, ck, tr, [], []⟩
theorem kept_save {k : Nat} {l : List UInt8} {ns : List Nd} {I : List Ino} (h : Kept k l ns I) (ck : Nat) (tr : List Did) (t : List UInt8) (ht : t.length ≤ 65536) :
    ∃ ns' I' tr', saveD (calmD ns I ck tr) pA t = (calmD ns' I' (ck + 4) tr', 0) ∧ Kept (k + 1) t ns' I' := by
  have hl := h.len
  refine ⟨[en pA (I.length + 1 : Nat)], I ++ [⟨ck + 1, 1, 384, t, false⟩], tr ++ saveT pA, ?_, ?_⟩
  · by_cases h0 : k = 0
    · have hn := h.names
      rw [if_pos h0] at hn
      rw [hn]
      exact save_calm (ns1 := [en (besideL pA) (I.length + 1 : Nat)]) fine_a ⟨by decide, rfl, rfl, rfl, rfl⟩ ht (fun x => by show (0 : Int) ≠ 2; decide)
    · have hn := h.names
      rw [if_neg h0] at hn
      rw [hn]
      refine save_calm (ns1 := [en pA k, en (besideL pA) (I.length + 1 : Nat)]) fine_a ⟨(show (1 : Nat) < 1000 by decide), rfl, rfl, rfl, rfl⟩ ht (fun x => ?_)
      show (inoOf (I ++ [x]) k).kind ≠ 2
      rw [ino_old I x (by omega) (by omega), (h.last h0).1]
      decide
  · refine ⟨by rw [if_neg (by omega), hl], by rw [List.length_append, hl]; rfl, fun i hi => ?_, fun _ => ?_⟩
    · rcases List.mem_append.1 hi with hi | hi
      · exact h.clean i hi
      · rw [List.mem_singleton.1 hi]
    · rw [show ((k + 1 : Nat) : Int) = ((I.length + 1 : Nat) : Int) by omega, ino_last]
      exact ⟨rfl, rfl⟩
/-- A crash at the first step of a disk on which all is safe. -/
theorem kept_crash {ns : List Nd} {I : List Ino} (hc : ∀ i ∈ I, i.dirty = false) (ck : Nat) (tr : List Did) (keep torn : Int) :
    ∃ D, flushD (bootD (calmD ns I ck tr) [⟨0, 3, keep, torn⟩] []) = (D, 75) ∧ bootD D [] [] = calmD ns I (ck + 1) [] := by
  have hs := step_fate (bootD (calmD ns I ck tr) [⟨0, 3, keep, torn⟩] []) ⟨cFlush, [], []⟩ ⟨0, 3, keep, torn⟩ rfl rfl rfl
  rw [if_pos ⟨rfl, rfl⟩] at hs
  refine ⟨crashD (nowD (bootD (calmD ns I ck tr) [⟨0, 3, keep, torn⟩] []) ⟨cFlush, [], []⟩) keep torn, ?_, ?_⟩
  · unfold flushD
    rw [hs, aft_no (by exact n75)]
  · have hk : keptD (nowD (bootD (calmD ns I ck tr) [⟨0, 3, keep, torn⟩] []) ⟨cFlush, [], []⟩) keep = ns := by
      unfold keptD keepN
      rw [show (nowD (bootD (calmD ns I ck tr) [⟨0, 3, keep, torn⟩] []) ⟨cFlush, [], []⟩).later.length = 0 from rfl, Nat.min_zero, if_pos rfl]
      rfl
    unfold crashD
    rw [hk]
    show (⟨ns, ns, [], I.map (clean torn), false, ck + 1, [], [], []⟩ : Dk) = _
    rw [clean_id hc]
    rfl
/-- StoreStays over lists, behind the Saves. -/
theorem kept_end {k : Nat} {l : List UInt8} {ns : List Nd} {I : List Ino} (h : Kept k l ns I) (h0 : k = 0 → l = []) (ck : Nat) (tr : List Did) (keep torn : Int) :
    ∃ D1 D2 D3 D4 D5, flushD (bootD (calmD ns I ck tr) [⟨0, 3, keep, torn⟩] []) = (D1, 75) ∧ loadD (bootD D1 [] []) pA = (D2, (l, decide (k ≠ 0), 0)) ∧ clearD D2 pA = (D3, 0) ∧
      flushD (bootD D3 [⟨0, 3, keep, torn⟩] []) = (D4, 75) ∧ loadD (bootD D4 [] []) pA = (D5, ([], false, 0)) ∧ D5.names = [] := by
  obtain ⟨D1, c1, c2⟩ := kept_crash (ns := ns) h.clean ck tr keep torn
  by_cases hk : k = 0
  · have hn := h.names
    rw [if_pos hk] at hn
    subst hn
    rw [h0 hk]
    obtain ⟨D4, e1, e2⟩ := kept_crash (ns := []) h.clean (ck + 1 + 1 + 1) ([] ++ [⟨cGet, pA, []⟩] ++ [⟨cRemove, pA, []⟩]) keep torn
    obtain ⟨D5, l5, n5⟩ : ∃ D5, loadD (bootD D4 [] []) pA = (D5, ([], false, 0)) ∧ D5.names = [] := by
      rw [e2]
      exact ⟨_, load_gone fine_a rfl, rfl⟩
    have l2 : loadD (bootD D1 [] []) pA = (calmD [] I (ck + 1 + 1) ([] ++ [⟨cGet, pA, []⟩]), ([], decide (k ≠ 0), 0)) := by
      rw [c2, show decide (k ≠ 0) = false by simpa using hk]
      exact load_gone fine_a rfl
    exact ⟨D1, _, _, D4, D5, c1, l2, clear_gone fine_a rfl, e1, l5, n5⟩
  · have hn := h.names
    rw [if_neg hk] at hn
    subst hn
    obtain ⟨q1, q2⟩ := h.last hk
    obtain ⟨D4, e1, e2⟩ := kept_crash (ns := []) h.clean (ck + 1 + 1 + 1 + 1) ([] ++ [⟨cGet, pA, []⟩] ++ [⟨cRemove, pA, []⟩] ++ [⟨cFlush, [], []⟩]) keep torn
    obtain ⟨D5, l5, n5⟩ : ∃ D5, loadD (bootD D4 [] []) pA = (D5, ([], false, 0)) ∧ D5.names = [] := by
      rw [e2]
      exact ⟨_, load_gone fine_a rfl, rfl⟩
    have l2 : loadD (bootD D1 [] []) pA = (calmD [en pA k] I (ck + 1 + 1) ([] ++ [⟨cGet, pA, []⟩]), (l, decide (k ≠ 0), 0)) := by
      rw [c2, show decide (k ≠ 0) = true by simpa using hk, ← q2]
      exact (load_calm (k := k) fine_a rfl q1).1
    exact ⟨D1, _, _, D4, D5, c1, l2, clear_calm (ns := [en pA k]) (k := k) fine_a rfl q1 (Nat.le_refl 1), e1, l5, n5⟩
/- StoreApart -/
def apI (a : List UInt8) : Ino := ⟨1, 1, 384, a, false⟩
def apD1 (a : List UInt8) : Dk := ⟨[en pA 1], [en pA 1], [], [apI a], false, 4, saveT pA, [], []⟩
theorem st_one (a : List UInt8) (ha : a.length ≤ 65536) : saveD (newD []) pA a = (apD1 a, 0) :=
  save_calm (ns := []) (sf := []) (lt := []) (I := []) (ck := 0) (tr := []) (p := pA) (t := a) (ns1 := [en (besideL pA) 1]) fine_a ⟨by decide, rfl, rfl, rfl, rfl⟩ ha (fun x => by show (0 : Int) ≠ 2; decide)
/-- StoreApart over lists. -/
theorem st_apart (a b : List UInt8) (f : Fate) (hb : b.length ≤ 65536) :
    ∃ D3 e D5 D6 t is D7 D8 D9 , saveD (bootD (apD1 a) [f] []) pB b = (D3, e) ∧ loadD (bootD D3 [] []) pA = (D5, (a, true, 0)) ∧ loadD D5 pB = (D6, (t, is, 0)) ∧ (is = true → t = b) ∧ (e = 0 → is = true) ∧
      clearD D6 pA = (D7, 0) ∧ loadD D7 pA = (D8, ([], false, 0)) ∧ loadD D8 pB = (D9, (t, is, 0)) := by
  have hL := save_fate (I := [apI a]) (ck := 4) (t := b) (ns := [en pA 1]) (ns1 := [en pA 1, en (besideL pB) 2]) (ns2 := [en pA 1, en pB 2]) f fine_b ⟨by decide, rfl, rfl, rfl, rfl⟩ hb (fun x => by show (0 : Int) ≠ 2; decide) (fun i hi => by
    simp only [List.mem_singleton] at hi
    rw [hi]
    rfl)
  obtain ⟨D3, e, hS⟩ : ∃ D e, saveD ⟨[en pA 1], [en pA 1], [], [apI a], false, 4, [], [f], []⟩ pB b = (D, e) := ⟨_, _, rfl⟩
  rw [hS] at hL
  obtain ⟨ns, sf, lt, I, off, ck, tr, fs, es⟩ := D3
  obtain ⟨-, hL⟩ := hL
  simp only at hL
  rcases hL with ⟨rfl, hI, he⟩ | ⟨rfl, ⟨x, hx, rfl⟩, he⟩ | ⟨rfl, x, hx, hxt, rfl⟩
  · have hI1 : inoOf I 1 = apI a := by
      rcases hI with rfl | ⟨x, _, rfl⟩ <;> rfl
    have hk1 : (inoOf I ((1 : Nat) : Int)).kind = 1 := by show (inoOf I 1).kind = 1; rw [hI1]; rfl
    have l1 := (load_calm (sf := sf) (lt := lt) (I := I) (ck := ck) (tr := []) (ns := [en pA 1]) (k := 1) fine_a rfl hk1).1
    rw [show inoOf I ((1 : Nat) : Int) = apI a from hI1] at l1
    exact ⟨_, e, _, _, [], false, _, _, _, hS, l1, load_gone fine_b rfl, (fun h => by cases h), fun h => absurd h he, clear_calm (k := 1) fine_a rfl hk1 (Nat.le_refl 1), load_gone fine_a rfl, load_gone fine_b rfl⟩
  · exact ⟨_, e, _, _, [], false, _, _, _, hS, (load_calm (k := 1) fine_a rfl rfl).1, load_gone fine_b rfl, (fun h => by cases h), fun h => absurd h he, clear_calm (k := 1) fine_a rfl rfl (Nat.le_refl 1), load_gone fine_a rfl, load_gone fine_b rfl⟩
  · have k1 : (inoOf ([apI a] ++ [x]) ((1 : Nat) : Int)).kind = 1 := rfl
    have k2 : (inoOf ([apI a] ++ [x]) ((2 : Nat) : Int)).kind = 1 := hx
    have d2 : (inoOf ([apI a] ++ [x]) ((2 : Nat) : Int)).data = b := hxt
    obtain ⟨J, hJ⟩ : ∃ J, J = [apI a] ++ [x] := ⟨_, rfl⟩
    have d1 : (inoOf J ((1 : Nat) : Int)).data = a := by rw [hJ]; rfl
    rw [← hJ] at k1 k2 d2
    rw [← hJ] at hS
    have f1 : findN [en pA 1, en pB 2] pA = some (en pA (1 : Nat)) := rfl
    have f2 : findN [en pA 1, en pB 2] pB = some (en pB (2 : Nat)) := rfl
    have f3 : findN (delE [en pA 1, en pB 2] pA) pB = some (en pB (2 : Nat)) := rfl
    have l1 := (load_calm (sf := sf) (lt := lt) (I := J) (ck := ck) (tr := []) fine_a f1 k1).1
    have l2 := (load_calm (sf := sf) (lt := lt) (I := J) (ck := ck + 1) (tr := [] ++ [⟨cGet, pA, []⟩]) fine_b f2 k2).1
    have l3 := clear_calm (sf := sf) (lt := lt) (I := J) (ck := ck + 1 + 1) (tr := [] ++ [⟨cGet, pA, []⟩] ++ [⟨cGet, pB, []⟩]) fine_a f1 k1 (Nat.le_refl 1)
    obtain ⟨D7, hD7⟩ : ∃ D, D = (⟨delE [en pA 1, en pB 2] pA, delE [en pA 1, en pB 2] pA, [], J, false, ck + 1 + 1 + 1 + 1, [] ++ [⟨cGet, pA, []⟩] ++ [⟨cGet, pB, []⟩] ++ [⟨cRemove, pA, []⟩] ++ [⟨cFlush, [], []⟩], [], []⟩ : Dk) := ⟨_, rfl⟩
    have l4 := load_gone (sf := D7.safe) (lt := []) (I := J) (ck := D7.clock) (tr := D7.trace) (ns := delE [en pA 1, en pB 2] pA) fine_a rfl
    have l5 := (load_calm (sf := D7.safe) (lt := []) (I := J) (ck := D7.clock + 1) (tr := D7.trace ++ [⟨cGet, pA, []⟩]) fine_b f3 k2).1
    subst hD7
    rw [d1] at l1
    rw [d2] at l2 l5
    exact ⟨_, e, _, _, b, true, _, _, _, hS, l1, l2, fun _ => rfl, fun _ => rfl, l3, l4, l5⟩
end ST
end Go.Proofs.YtfbhbadcgecgmaaGreatDoor
end
