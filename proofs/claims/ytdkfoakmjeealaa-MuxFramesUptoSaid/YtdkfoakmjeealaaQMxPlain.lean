/- Layer 16 over lists: a sender's calls, a receiver's; whatever is picked, all comes whole. -/
import Derived.Lib.Strings
set_option linter.all false
set_option maxRecDepth 100000
set_option maxHeartbeats 25600000
namespace Go.Proofs.Ytdkfoakmjeealaa
namespace MX

/-- A call of a sender: its text, how much was sent, how much is acked, whether anything was sent. -/
structure Cl where
  text : List UInt8
  sent : Nat
  acked : Nat
  begun : Bool
def Cl.ended (c : Cl) : Bool := c.begun && decide (c.sent = c.text.length)
def Cl.way (c : Cl) : Nat := c.sent - c.acked
structure Cl.Ok (c : Cl) : Prop where
  s : c.sent ≤ c.text.length
  a : c.acked ≤ c.sent
  t : c.text.length ≤ 65536
  b : c.begun = false → c.sent = 0
def newC (t : List UInt8) : Cl := ⟨t, 0, 0, false⟩
theorem new_ok {t : List UInt8} (h : t.length ≤ 65536) : (newC t).Ok := ⟨Nat.zero_le _, Nat.le_refl _, h, fun _ => rfl⟩
def mayB (W : Int) (c : Cl) : Bool := !c.ended && decide ((c.way : Int) < W)
def mayAt (W : Int) (cs : List Cl) (i : Nat) : Bool := (cs[i]?).elim false (mayB W)
def readyTo (W : Int) (cs : List Cl) (k : Nat) : List Nat := (List.range k).filter (mayAt W cs)
theorem ready_succ (W : Int) (cs : List Cl) (k : Nat) : readyTo W cs (k + 1) = readyTo W cs k ++ (if mayAt W cs k then [k] else []) := by
  unfold readyTo
  rw [List.range_succ, List.filter_append]
  congr 1
  by_cases h : mayAt W cs k <;> simp [h]
theorem ready_mem {W : Int} {cs : List Cl} {k i : Nat} : i ∈ readyTo W cs k ↔ i < k ∧ mayAt W cs i = true := by
  unfold readyTo
  rw [List.mem_filter, List.mem_range]
theorem ready_len (W : Int) (cs : List Cl) (k : Nat) : (readyTo W cs k).length ≤ k := by
  have := List.length_filter_le (mayAt W cs) (List.range k)
  rw [List.length_range] at this
  exact this
def leftTo (cs : List Cl) (k : Nat) : Nat := ((cs.take k).filter (fun c => !c.ended)).length
theorem left_succ {cs : List Cl} {k : Nat} {c : Cl} (h : cs[k]? = some c) : leftTo cs (k + 1) = leftTo cs k + (if c.ended then 0 else 1) := by
  unfold leftTo
  rw [List.take_add_one, h, Option.toList_some, List.filter_append, List.length_append]
  congr 1
  by_cases hc : c.ended <;> simp [hc]
theorem left_le (cs : List Cl) (k : Nat) : leftTo cs k ≤ k := by
  unfold leftTo
  have := List.length_filter_le (fun c : Cl => !c.ended) (cs.take k)
  rw [List.length_take] at this
  omega
def leftL (cs : List Cl) : Nat := leftTo cs cs.length
theorem left_zero {cs : List Cl} (h : leftL cs = 0) : ∀ c ∈ cs, c.ended = true := by
  intro c hc
  unfold leftL leftTo at h
  rw [List.take_length] at h
  have h2 := List.eq_nil_of_length_eq_zero h
  rw [List.filter_eq_nil_iff] at h2
  have := h2 c hc
  simpa using this
theorem left_pos {cs : List Cl} (h : 0 < leftL cs) : ∃ (i : Nat) (c : Cl), cs[i]? = some c ∧ c.ended = false := by
  unfold leftL leftTo at h
  rw [List.take_length] at h
  obtain ⟨c, hc⟩ := List.exists_mem_of_length_pos h
  rw [List.mem_filter] at hc
  obtain ⟨i, hi⟩ := List.getElem?_of_mem hc.1
  exact ⟨i, c, hi, by simpa using hc.2⟩
/-- How much the next piece takes. -/
def pieceZ (W S : Int) (c : Cl) : Int := min (min ((c.text.length - c.sent : Nat) : Int) S) (W - (c.way : Nat))
def pieceN (W S : Int) (c : Cl) : Nat := (pieceZ W S c).toNat
theorem piece_z {W S : Int} {c : Cl} (hS : 1 ≤ S) (hw : (c.way : Int) < W) : pieceZ W S c = (pieceN W S c : Nat) := by
  unfold pieceN pieceZ
  omega
theorem piece_le {W S : Int} {c : Cl} (hS : 1 ≤ S) (hw : (c.way : Int) < W) : pieceN W S c ≤ c.text.length - c.sent ∧ (pieceN W S c : Int) ≤ S ∧ (pieceN W S c : Int) ≤ W - c.way := by
  unfold pieceN pieceZ
  omega
theorem piece_pos {W S : Int} {c : Cl} (hS : 1 ≤ S) (hw : (c.way : Int) < W) (hs : c.sent < c.text.length) : 1 ≤ pieceN W S c := by
  unfold pieceN pieceZ
  omega
structure Fr where
  call : Int
  pos : Int
  text : List UInt8
  last : Bool
def frO (W S : Int) (i : Nat) (c : Cl) : Fr := ⟨i, c.sent, (c.text.drop c.sent).take (pieceN W S c), decide (c.sent + pieceN W S c = c.text.length)⟩
def goOn (W S : Int) (c : Cl) : Cl := ⟨c.text, c.sent + pieceN W S c, c.acked, true⟩
theorem goOn_ok {W S : Int} {c : Cl} (h : c.Ok) (hS : 1 ≤ S) (hw : (c.way : Int) < W) : (goOn W S c).Ok := by
  have hp := piece_le hS hw
  have := h.s
  have := h.a
  exact ⟨by show c.sent + pieceN W S c ≤ c.text.length; omega, by show c.acked ≤ c.sent + pieceN W S c; omega, h.t, fun hb => by cases hb⟩
theorem goOn_ended (W S : Int) (c : Cl) : (goOn W S c).ended = (frO W S 0 c).last := by
  unfold Cl.ended goOn frO
  simp
theorem frO_len {W S : Int} {i : Nat} {c : Cl} (hS : 1 ≤ S) (hw : (c.way : Int) < W) : (frO W S i c).text.length = pieceN W S c := by
  have hp := piece_le hS hw
  unfold frO
  simp only [List.length_take, List.length_drop]
  omega
/-- Which call may send at this pick. -/
def chosen (W : Int) (cs : List Cl) (pick : Int) : Option Nat :=
  let r := readyTo W cs cs.length
  if r = [] then none else r[(max pick 0).toNat % r.length]?
theorem chosen_some {W : Int} {cs : List Cl} {pick : Int} {i : Nat} (h : chosen W cs pick = some i) : ∃ c, cs[i]? = some c ∧ mayB W c = true := by
  unfold chosen at h
  simp only at h
  split at h
  · cases h
  · have hm := List.mem_of_getElem? h
    obtain ⟨hi, hm⟩ := ready_mem.1 hm
    unfold mayAt at hm
    rw [List.getElem?_eq_getElem hi] at hm
    exact ⟨_, List.getElem?_eq_getElem hi, hm⟩
theorem chosen_none {W : Int} {cs : List Cl} {pick : Int} (h : chosen W cs pick = none) : readyTo W cs cs.length = [] := by
  unfold chosen at h
  simp only at h
  split at h
  · assumption
  · rename_i hr
    have hl : 0 < (readyTo W cs cs.length).length := List.length_pos_iff.2 hr
    rw [List.getElem?_eq_getElem (Nat.mod_lt _ hl)] at h
    cases h
theorem chosen_of {W : Int} {cs : List Cl} {pick : Int} {i : Nat} (h : (readyTo W cs cs.length)[(max pick 0).toNat % (readyTo W cs cs.length).length]? = some i) : chosen W cs pick = some i := by
  unfold chosen
  simp only
  rw [if_neg, h]
  intro e
  rw [e] at h
  simp at h
theorem may_ready {W : Int} {cs : List Cl} {i : Nat} {c : Cl} (hc : cs[i]? = some c) (hm : mayB W c = true) : readyTo W cs cs.length ≠ [] := by
  intro e
  have : i ∈ readyTo W cs cs.length := ready_mem.2 ⟨(List.getElem?_eq_some_iff.1 hc).1, by unfold mayAt; rw [hc]; exact hm⟩
  rw [e] at this
  cases this
/-- A receiver's call. -/
structure Rc where
  text : List UInt8
  done : Bool
def noR : Rc := ⟨[], false⟩
/-- The call that a frame goes on with, if it may. -/
def takes (rs : List Rc) (f : Fr) : Option Rc :=
  if 0 ≤ f.call ∧ f.call < 64 then
    match rs[f.call.toNat]? with
    | none => none
    | some r => if r.done = false ∧ f.pos = r.text.length ∧ f.text.length ≤ 65536 - r.text.length then some r else none
  else none
def onR (r : Rc) (f : Fr) : Rc := ⟨r.text ++ f.text, f.last⟩
theorem takes_some {rs : List Rc} {f : Fr} {r : Rc} (h : takes rs f = some r) : 0 ≤ f.call ∧ f.call < 64 ∧ rs[f.call.toNat]? = some r ∧ r.done = false ∧ f.pos = r.text.length ∧ f.text.length ≤ 65536 - r.text.length := by
  unfold takes at h
  split at h
  · rename_i h1
    split at h
    · cases h
    · rename_i q h2
      split at h
      · rename_i h3
        injection h with h
        subst h
        exact ⟨h1.1, h1.2, h2, h3.1, h3.2.1, h3.2.2⟩
      · cases h
  · cases h
/-- An ack is taken. -/
def ackOk (cs : List Cl) (call n : Int) : Option Cl :=
  if 0 ≤ call then
    match cs[call.toNat]? with
    | none => none
    | some c => if (c.acked : Int) ≤ n ∧ n ≤ c.sent then some c else none
  else none
def ackC (c : Cl) (n : Nat) : Cl := ⟨c.text, c.sent, n, c.begun⟩
theorem ackC_ok {c : Cl} {n : Nat} (h : c.Ok) (hn : n ≤ c.sent) : (ackC c n).Ok := ⟨h.s, hn, h.t, h.b⟩
end MX
end Go.Proofs.Ytdkfoakmjeealaa
