/- Layer 7 over lists: a disk and what is asked of it (no program is read here). An entry of a directory is a node whose kind is the number of its inode (0: none). -/
import Derived.Test.YtjkikkpbeceeeaaGreatDoorTreeGo
namespace Go.Proofs.YtjkikkpbeceeeaaGreatDoor.DP
open Go NP TP

structure Ino where
  time : Int
  kind : Int
  mode : Int
  data : List UInt8
  dirty : Bool
structure Fate where
  at_ : Int
  what : Int
  keep : Int
  torn : Int
structure Edit where
  at_ : Int
  path : List UInt8
  value : List Nd
structure Did where
  call : List UInt8
  path : List UInt8
  to : List UInt8
structure Dk where
  names : List Nd
  safe : List Nd
  later : List (List Nd)
  inos : List Ino
  off : Bool
  clock : Nat
  trace : List Did
  fates : List Fate
  edits : List Edit

def inoZ : Ino := ⟨0, 0, 0, [], false⟩
def inoOf (I : List Ino) (k : Int) : Ino := I.getD (k.toNat - 1) inoZ
def en (p : List UInt8) (k : Int) : Nd := ⟨p, k, [], 0⟩
def nodeOf (I : List Ino) (e : Nd) : Nd := ⟨e.path, (inoOf I e.kind).kind, (inoOf I e.kind).data, (inoOf I e.kind).mode⟩
def treeD (D : Dk) : List Nd := D.names.map (nodeOf D.inos)
def kindN (I : List Ino) (ns : List Nd) (p : List UInt8) : Int :=
  if p = [] then 2 else match findN ns p with | some e => (inoOf I e.kind).kind | none => 0
/- changes of names -/
def delE (ns : List Nd) (p : List UInt8) : List Nd := ns.filter fun e => decide (e.path ≠ p)
def insE (ns : List Nd) (e : Nd) : List Nd := (ns.filter fun x => decide (ordL x.path e.path < 0)) ++ e :: ns.filter fun x => !decide (ordL x.path e.path < 0)
def putE (ns : List Nd) (e : Nd) : List Nd := if e.kind = 0 then delE ns e.path else insE (delE ns e.path) e
def withE (ns : List Nd) (c : List Nd) : List Nd := c.foldl putE ns
def inE (ns : List Nd) (p : List UInt8) : List Nd := ns.filter fun e => withinL e.path p
def outE (ns : List Nd) (p : List UInt8) : List Nd := (inE ns p).map fun e => en e.path 0
def changeD (D : Dk) (c : List Nd) : Dk := { D with names := withE D.names c, later := D.later ++ [withE D.names c] }
def freshI (D : Dk) (n : Nd) : Ino := ⟨D.clock, n.kind, n.mode, n.data, false⟩
def freshD (D : Dk) (n : Nd) : Dk := { D with inos := D.inos ++ [freshI D n] }
def freshE (D : Dk) (n : Nd) : Nd := en n.path (D.inos.length + 1 : Nat)
def freshes (D : Dk) (ns : List Nd) : List Nd := ns.mapIdx fun i n => en n.path (D.inos.length + 1 + i : Nat)
def settleD (D : Dk) : Dk := { D with safe := D.names, later := [] }
/- a step -/
def editC (D : Dk) (p : List UInt8) (t : List Nd) : Dk :=
  changeD { D with inos := D.inos ++ (inE t p).map (freshI D) } (outE D.names p ++ freshes D (inE t p))
def editD (D : Dk) (p : List UInt8) (v : List Nd) : Dk :=
  if (putL (treeD D) p v).2 = 0 then editC D p (putL (treeD D) p v).1 else D
def editsD (D : Dk) (n : Nat) (es : List Edit) : Dk := es.foldl (fun (X : Dk) (e : Edit) => if e.at_ = (n : Int) then editD X e.path e.value else X) D
def fateZ : Fate := ⟨0, 0, 0, 0⟩
def fateOf (fs : List Fate) (n : Int) : Fate := (fs.find? fun f => decide (f.at_ = n)).getD fateZ
def fateD (D : Dk) : Fate := fateOf D.fates ((D.trace.length : Int) - 1)
def clean (torn : Int) (i : Ino) : Ino := if i.dirty = true then { i with data := i.data.take torn.toNat, dirty := false } else i
def keepN (D : Dk) (keep : Int) : Nat := min keep.toNat D.later.length
def keptD (D : Dk) (keep : Int) : List Nd := if keepN D keep = 0 then D.safe else D.later.getD (keepN D keep - 1) []
def crashD (D : Dk) (keep torn : Int) : Dk :=
  { D with names := keptD D keep, safe := keptD D keep, later := [], inos := D.inos.map (clean torn), off := true }
def begunD (D : Dk) (c : Did) : Dk :=
  let E := editsD { D with clock := D.clock + 1 } D.trace.length D.edits
  { E with trace := E.trace ++ [c] }
def stepD (D : Dk) (c : Did) : Dk × Int :=
  if D.off = true then (D, 75)
  else if (fateD (begunD D c)).what = 3 then (crashD (begunD D c) (fateD (begunD D c)).keep (fateD (begunD D c)).torn, 75)
  else if (fateD (begunD D c)).what = 1 then (begunD D c, 70)
  else (begunD D c, 0)
/- calls -/
def firstE : List Int → Int
  | [] => 0
  | e :: r => if e = 0 then firstE r else e
def whenE (b : Bool) (e : Int) : Int := if b = true then e else 0
def standB (n : Nd) : Bool := rightV [{ n with path := [] }]
def upB (D : Dk) (p : List UInt8) : Bool := decide (kindN D.inos D.names (parentL p) = 2)
def kindD (D : Dk) (p : List UInt8) : Int := kindN D.inos D.names p
def roomB (D : Dk) (p : List UInt8) : Bool := decide ((fateD D).what ≠ 2) && !(decide (kindD D p = 0) && decide (1000 ≤ D.names.length))
def setI (D : Dk) (p : List UInt8) (f : Ino → Ino) : Dk :=
  match findN D.names p with
  | some e => { D with inos := D.inos.set (e.kind.toNat - 1) (f (inoOf D.inos e.kind)) }
  | none => D
def wroteI (D : Dk) (data : List UInt8) (mode : Int) (i : Ino) : Ino := { i with data := data, mode := mode, time := D.clock, dirty := true }
def writeE (D : Dk) (p data : List UInt8) (mode : Int) : Int :=
  firstE [whenE (!pathL p) 11, whenE (!standB ⟨p, 1, data, mode⟩) 2, whenE (!upB D p) 62, whenE (decide (kindD D p = 2) || decide (kindD D p = 3)) 73, whenE (!roomB D p) 71]
def wroteD (D : Dk) (p data : List UInt8) (mode : Int) : Dk :=
  let E := if kindD D p = 0 then changeD (freshD D ⟨p, 1, data, mode⟩) [freshE D ⟨p, 1, data, mode⟩] else D
  setI E p (wroteI E data mode)
def layE (D : Dk) (n : Nd) : Int :=
  firstE [whenE (!pathL n.path) 11, whenE (!standB n) 2, whenE (!upB D n.path) 62, whenE (!decide (kindD D n.path = 0)) 72, whenE (!roomB D n.path) 71]
def laidD (D : Dk) (n : Nd) : Dk := changeD (freshD D n) [freshE D n]
def removeE (D : Dk) (p : List UInt8) : Int :=
  firstE [whenE (!pathL p) 11, whenE (decide (kindD D p = 0)) 74, whenE (decide (1 < (inE D.names p).length)) 72]
def moveE (D : Dk) (p q : List UInt8) : Int :=
  firstE [whenE (!pathL p || !pathL q) 11, whenE (withinL q p) 2, whenE (decide (kindD D p = 0)) 74, whenE (!decide (kindD D q = 0)) 72, whenE (!upB D q) 62]
def movedC (D : Dk) (p q : List UInt8) : List Nd := outE D.names p ++ (inE D.names p).map fun e => en (q ++ e.path.drop p.length) e.kind
def replaceE (D : Dk) (p q : List UInt8) : Int :=
  firstE [whenE (!pathL p || !pathL q) 11, whenE (decide (q = p)) 2, whenE (decide (kindD D p = 0)) 74, whenE (decide (kindD D p = 2) || decide (kindD D q = 2)) 73, whenE (!upB D q) 62]
def inoN (ns : List Nd) (p : List UInt8) : Int := match findN ns p with | some e => e.kind | none => 0
def syncE (D : Dk) (p : List UInt8) : Int := firstE [whenE (!pathL p) 11, whenE (decide (kindD D p = 0)) 74]
def missE (D : Dk) (p : List UInt8) : Int := firstE [whenE (!decide (p = []) && !pathL p) 11, whenE (decide (kindD D p = 0)) 74]
def after (r : Dk × Int) (f : Dk → Dk × Int) : Dk × Int := if r.2 = 0 then f r.1 else r
def refuse (e : Int) (D D' : Dk) : Dk × Int := if e = 0 then (D', 0) else (D, e)
def cWrite : List UInt8 := [87, 114, 105, 116, 101]
def cMkdir : List UInt8 := [77, 107, 100, 105, 114]
def cLink : List UInt8 := [76, 105, 110, 107]
def cRemove : List UInt8 := [82, 101, 109, 111, 118, 101]
def cMove : List UInt8 := [77, 111, 118, 101]
def cReplace : List UInt8 := [82, 101, 112, 108, 97, 99, 101]
def cSync : List UInt8 := [83, 121, 110, 99]
def cFlush : List UInt8 := [70, 108, 117, 115, 104]
def cGet : List UInt8 := [71, 101, 116]
def cNames : List UInt8 := [78, 97, 109, 101, 115]
def writeD (D : Dk) (p data : List UInt8) (mode : Int) : Dk × Int := after (stepD D ⟨cWrite, p, []⟩) fun E => refuse (writeE E p data mode) E (wroteD E p data mode)
def mkdirD (D : Dk) (p : List UInt8) : Dk × Int := after (stepD D ⟨cMkdir, p, []⟩) fun E => refuse (layE E ⟨p, 2, [], 0⟩) E (laidD E ⟨p, 2, [], 0⟩)
def linkD (D : Dk) (p q : List UInt8) : Dk × Int := after (stepD D ⟨cLink, p, q⟩) fun E => refuse (layE E ⟨p, 3, q, 0⟩) E (laidD E ⟨p, 3, q, 0⟩)
def removeD (D : Dk) (p : List UInt8) : Dk × Int := after (stepD D ⟨cRemove, p, []⟩) fun E => refuse (removeE E p) E (changeD E [en p 0])
def moveD (D : Dk) (p q : List UInt8) : Dk × Int := after (stepD D ⟨cMove, p, q⟩) fun E =>
  if moveE E p q = 0 then (if ((movedC E p q).any fun e => !pathL e.path) = true then (E, 11) else (changeD E (movedC E p q), 0)) else (E, moveE E p q)
def replaceD (D : Dk) (p q : List UInt8) : Dk × Int := after (stepD D ⟨cReplace, p, q⟩) fun E => refuse (replaceE E p q) E (changeD E [en p 0, en q (inoN E.names p)])
def syncI (i : Ino) : Ino := { i with dirty := false }
def syncD (D : Dk) (p : List UInt8) : Dk × Int := after (stepD D ⟨cSync, p, []⟩) fun E => refuse (syncE E p) E (setI E p syncI)
def flushD (D : Dk) : Dk × Int := after (stepD D ⟨cFlush, [], []⟩) fun E => (settleD E, 0)
structure Stamp where
  ino : Int
  size : Int
  time : Int
def gotN (D : Dk) (p : List UInt8) : Nd := if p = [] then ⟨[], 2, [], 0⟩ else match findN D.names p with | some e => { nodeOf D.inos e with path := p } | none => ⟨p, 0, [], 0⟩
def gotS (D : Dk) (p : List UInt8) : Stamp := if p = [] then ⟨0, 0, 0⟩ else match findN D.names p with | some e => ⟨e.kind, (inoOf D.inos e.kind).data.length, (inoOf D.inos e.kind).time⟩ | none => ⟨0, 0, 0⟩
def nodeZ : Nd := ⟨[], 0, [], 0⟩
def stampZ : Stamp := ⟨0, 0, 0⟩
def getD (D : Dk) (p : List UInt8) : Dk × (Nd × Stamp × Int) :=
  let r := after (stepD D ⟨cGet, p, []⟩) fun E => refuse (missE E p) E E
  if r.2 = 0 then (r.1, (gotN r.1 p, gotS r.1 p, 0)) else (r.1, (nodeZ, stampZ, r.2))
def restL (p q : List UInt8) : List UInt8 := Lib.trimPrefix (Lib.trimPrefix q p) [47]
def lastsL (ns : List Nd) (p : List UInt8) : List (List UInt8) := ((inE ns p).map fun e => restL p e.path).filter fun r => !decide (r = []) && !decide (47 ∈ r)
def namesD (D : Dk) (p : List UInt8) : Dk × (List (List UInt8) × Int) :=
  let r := after (stepD D ⟨cNames, p, []⟩) fun E => refuse (firstE [missE E p, whenE (!decide (kindD E p = 2)) 73]) E E
  if r.2 = 0 then (r.1, (lastsL r.1.names p, 0)) else (r.1, ([], r.2))
def bootD (D : Dk) (fs : List Fate) (es : List Edit) : Dk := { D with off := false, trace := [], fates := fs, edits := es }
def emptyD : Dk := ⟨[], [], [], [], false, 0, [], [], []⟩
def newD (t : List Nd) : Dk := settleD { emptyD with names := freshes emptyD t, inos := t.map (freshI emptyD) }

/- what a disk's lists are like -/
structure Row (m : Nat) (ns : List Nd) : Prop where
  sorted : Sorted ns
  path : ∀ e ∈ ns, pathL e.path = true
  len : ns.length ≤ 1000
  ino : ∀ e ∈ ns, ∃ k : Nat, e = en e.path k ∧ 1 ≤ k ∧ k ≤ m
theorem Row.mono {m n : Nat} {ns : List Nd} (h : Row m ns) (hm : m ≤ n) : Row n ns := ⟨h.sorted, h.path, h.len, fun e he => by
  obtain ⟨k, e1, e2, e3⟩ := h.ino e he
  exact ⟨k, e1, e2, by omega⟩⟩
theorem Row.nil (m : Nat) : Row m [] := ⟨List.Pairwise.nil, by simp, by simp, by simp⟩
/-- The entries of a change: of paths, of the disk's inodes. -/
structure CRow (m : Nat) (c : List Nd) : Prop where
  path : ∀ e ∈ c, pathL e.path = true
  ino : ∀ e ∈ c, ∃ k : Nat, e = en e.path k ∧ k ≤ m
theorem CRow.mono {m n : Nat} {c : List Nd} (h : CRow m c) (hm : m ≤ n) : CRow n c := ⟨h.path, fun e he => by
  obtain ⟨k, h1, h2⟩ := h.ino e he
  exact ⟨k, h1, by omega⟩⟩
/-- The lists of a disk: what is put in its calls' way. -/
structure Fit (D : Dk) : Prop where
  names : Row D.inos.length D.names
  safe : Row D.inos.length D.safe
  later : ∀ l ∈ D.later, Row D.inos.length l
  data : ∀ i ∈ D.inos, i.data.length ≤ 65536
end Go.Proofs.YtjkikkpbeceeeaaGreatDoor.DP
