/- Layer 16 over lists: whatever is picked all texts come whole. -/
import Derived.Test.YtdkfoakmjeealaaQMxPlain
set_option linter.all false
set_option maxRecDepth 100000
set_option maxHeartbeats 25600000
namespace Go.Proofs.Ytdkfoakmjeealaa
namespace MX

/-- Of the acks those of call k go up from a to s. -/
def Chn (k : Nat) : Nat → List (Nat × Nat) → Nat → Prop
  | a, [], s => a = s
  | a, (c, n) :: r, s => if c = k then a ≤ n ∧ Chn k n r s else Chn k a r s
theorem Chn.le {k : Nat} : ∀ {acks : List (Nat × Nat)} {a s : Nat}, Chn k a acks s → a ≤ s
  | [], a, s, h => Nat.le_of_eq h
  | (c, n) :: r, a, s, h => by
    unfold Chn at h
    split at h
    · exact Nat.le_trans h.1 (Chn.le h.2)
    · exact Chn.le h
theorem Chn.snoc {k : Nat} : ∀ {acks : List (Nat × Nat)} {a s s' : Nat}, Chn k a acks s → s ≤ s' → Chn k a (acks ++ [(k, s')]) s'
  | [], a, s, s', h, hs => by
    have h : a = s := h
    show Chn k a [(k, s')] s'
    unfold Chn
    rw [if_pos rfl]
    exact ⟨by omega, rfl⟩
  | (c, n) :: r, a, s, s', h, hs => by
    rw [List.cons_append]
    unfold Chn at h ⊢
    split at h
    · rename_i hc
      rw [if_pos hc]
      exact ⟨h.1, Chn.snoc h.2 hs⟩
    · rename_i hc
      rw [if_neg hc]
      exact Chn.snoc h hs
theorem Chn.other {k j s' : Nat} (hj : j ≠ k) : ∀ {acks : List (Nat × Nat)} {a s : Nat}, Chn k a acks s → Chn k a (acks ++ [(j, s')]) s
  | [], a, s, h => by
    have h : a = s := h
    show Chn k a [(j, s')] s
    unfold Chn
    rw [if_neg hj]
    exact h
  | (c, n) :: r, a, s, h => by
    rw [List.cons_append]
    unfold Chn at h ⊢
    split at h
    · rename_i hc
      rw [if_pos hc]
      exact ⟨h.1, Chn.other hj h.2⟩
    · rename_i hc
      rw [if_neg hc]
      exact Chn.other hj h
/-- Up to where the receiver has a call: a frame of it may be on its way to be taken. -/
def tgt (pend : Option (Nat × Nat)) (k : Nat) (c : Cl) : Nat :=
  match pend with
  | none => c.sent
  | some (i, s0) => if i = k then s0 else c.sent
def isP (pend : Option (Nat × Nat)) (k : Nat) : Bool :=
  match pend with
  | none => false
  | some (i, _) => decide (i = k)
structure Jp (pend : Option (Nat × Nat)) (ts : List (List UInt8)) (cs : List Cl) (rs : List Rc) (acks : List (Nat × Nat)) : Prop where
  len : cs.length = ts.length
  l10 : cs.length ≤ 10
  rl : rs.length = 64
  tx : ∀ (k : Nat) (c : Cl), cs[k]? = some c → ts[k]? = some c.text
  ok : ∀ c ∈ cs, c.Ok
  rx : ∀ (k : Nat) (c : Cl) (r : Rc), cs[k]? = some c → rs[k]? = some r → r.text = c.text.take (tgt pend k c) ∧ r.done = (if isP pend k then false else c.ended)
  ch : ∀ (k : Nat) (c : Cl), cs[k]? = some c → Chn k c.acked acks (tgt pend k c) ∧ tgt pend k c ≤ c.sent
  ra : ∀ a ∈ acks, a.1 < cs.length
def rem (c : Cl) : Nat := if c.ended then 0 else max 1 (c.text.length - c.sent)
def remL (cs : List Cl) : Nat := (cs.map rem).sum
theorem sum_set : ∀ (cs : List Cl) (i : Nat) (c x : Cl), cs[i]? = some c → remL (cs.set i x) + rem c = remL cs + rem x
  | [], i, c, x, h => by simp at h
  | y :: cs, 0, c, x, h => by
    simp at h
    subst h
    unfold remL
    simp only [List.set_cons_zero, List.map_cons, List.sum_cons]
    omega
  | y :: cs, i + 1, c, x, h => by
    rw [List.getElem?_cons_succ] at h
    have ih := sum_set cs i c x h
    unfold remL at ih ⊢
    simp only [List.set_cons_succ, List.map_cons, List.sum_cons]
    omega
theorem rem_ack (c : Cl) (n : Nat) : rem (ackC c n) = rem c := rfl
theorem rem_on {W S : Int} {c : Cl} (hok : c.Ok) (hS : 1 ≤ S) (hw : (c.way : Int) < W) (he : c.ended = false) : rem (goOn W S c) + 1 ≤ rem c := by
  have hs := hok.s
  have hp := piece_le hS hw
  unfold rem
  rw [he]
  simp only [Bool.false_eq_true, if_false]
  by_cases h : c.sent < c.text.length
  · have h1 := piece_pos hS hw h
    split
    · omega
    · show max 1 (c.text.length - (c.sent + pieceN W S c)) + 1 ≤ _
      rename_i hn
      have : c.sent + pieceN W S c ≠ c.text.length := fun e => hn (by
        rw [goOn_ended]
        unfold frO
        simpa using e)
      omega
  · have hb : c.begun = false := by
      cases hb : c.begun with
      | false => rfl
      | true =>
        unfold Cl.ended at he
        rw [hb, Bool.true_and, decide_eq_false_iff_not] at he
        omega
    have h0 := hok.b hb
    have hpn : pieceN W S c = 0 := by omega
    have : (goOn W S c).ended = true := by
      rw [goOn_ended]
      unfold frO
      simp only [decide_eq_true_eq]
      omega
    rw [if_pos this]
    omega
theorem left_rem {cs : List Cl} (h : 0 < leftL cs) : 0 < remL cs := by
  obtain ⟨i, c, hc, he⟩ := left_pos h
  have := sum_set cs i c ⟨[], 0, 0, true⟩ hc
  have h0 : rem ⟨[], 0, 0, true⟩ = 0 := rfl
  have h1 : 1 ≤ rem c := by
    unfold rem
    rw [he]
    simp only [Bool.false_eq_true, if_false]
    omega
  omega
theorem rem_new : ∀ (ts : List (List UInt8)), (∀ t ∈ ts, t.length ≤ 200) → remL (ts.map newC) ≤ ts.length * 200
  | [], _ => Nat.le_refl _
  | t :: ts, h => by
    have ih := rem_new ts (fun t ht => h t (List.mem_cons_of_mem _ ht))
    have h1 : rem (newC t) ≤ 200 := by
      have := h t (List.mem_cons_self ..)
      unfold rem newC Cl.ended
      simp only [Bool.false_and, Bool.false_eq_true, if_false]
      omega
    unfold remL at ih ⊢
    simp only [List.map_cons, List.sum_cons, List.length_cons]
    omega
theorem Jp.start {ts : List (List UInt8)} (h10 : ts.length ≤ 10) (h : ∀ t ∈ ts, t.length ≤ 200) : Jp none ts (ts.map newC) (List.replicate 64 noR) [] := by
  refine ⟨by simp, by simpa using h10, by simp, fun k c hk => ?_, fun c hc => ?_, fun k c r hk hr => ?_, fun k c hk => ?_, fun a ha => by cases ha⟩
  · rw [List.getElem?_map] at hk
    obtain ⟨t, ht, rfl⟩ := Option.map_eq_some_iff.1 hk
    exact ht
  · obtain ⟨t, ht, rfl⟩ := List.mem_map.1 hc
    exact new_ok (by have := h t ht; omega)
  · rw [List.getElem?_map] at hk
    obtain ⟨t, ht, rfl⟩ := Option.map_eq_some_iff.1 hk
    rw [(List.mem_replicate.1 (List.mem_of_getElem? hr)).2]
    exact ⟨rfl, rfl⟩
  · rw [List.getElem?_map] at hk
    obtain ⟨t, ht, rfl⟩ := Option.map_eq_some_iff.1 hk
    exact ⟨rfl, Nat.le_refl _⟩
theorem set_get {α : Type} {l : List α} {i j : Nat} {x y : α} (h : (l.set i x)[j]? = some y) : (j = i ∧ y = x ∧ i < l.length) ∨ (j ≠ i ∧ l[j]? = some y) := by
  by_cases hj : j = i
  · subst hj
    rw [List.getElem?_set] at h
    rw [if_pos rfl] at h
    split at h
    · injection h with h
      exact .inl ⟨rfl, h.symm, by assumption⟩
    · cases h
  · rw [List.getElem?_set_ne (Ne.symm hj)] at h
    exact .inr ⟨hj, h⟩
theorem mem_set {l : List Cl} {i : Nat} {x y : Cl} (h : y ∈ l.set i x) : y = x ∨ y ∈ l := by
  rcases List.mem_or_eq_of_mem_set h with h | h
  · exact .inr h
  · exact .inl h
/-- A piece is sent. -/
theorem Jp.send {ts : List (List UInt8)} {cs : List Cl} {rs : List Rc} {acks : List (Nat × Nat)} (h : Jp none ts cs rs acks) {W S : Int} {i : Nat} {c : Cl} (hc : cs[i]? = some c) (hS : 1 ≤ S) (hm : mayB W c = true) :
    Jp (some (i, c.sent)) ts (cs.set i (goOn W S c)) rs acks ∧ remL (cs.set i (goOn W S c)) + 1 ≤ remL cs := by
  unfold mayB at hm
  simp only [Bool.and_eq_true, decide_eq_true_eq, Bool.not_eq_true'] at hm
  obtain ⟨he, hw⟩ := hm
  have hok := h.ok c (List.mem_of_getElem? hc)
  refine ⟨⟨by rw [List.length_set]; exact h.len, by rw [List.length_set]; exact h.l10, h.rl, fun k x hk => ?_, fun x hx => ?_, fun k x r hk hr => ?_, fun k x hk => ?_, fun a ha => by rw [List.length_set]; exact h.ra a ha⟩, ?_⟩
  · rcases set_get hk with ⟨rfl, rfl, _⟩ | ⟨_, hk⟩
    · exact h.tx k c hc
    · exact h.tx k x hk
  · rcases mem_set hx with rfl | hx
    · exact goOn_ok hok hS hw
    · exact h.ok x hx
  · rcases set_get hk with ⟨rfl, rfl, _⟩ | ⟨hne, hk⟩
    · have := h.rx k c r hc hr
      refine ⟨?_, ?_⟩
      · show _ = c.text.take (if k = k then c.sent else _)
        rw [if_pos rfl]
        exact this.1
      · show _ = if decide (k = k) = true then false else _
        rw [if_pos (by simp), this.2, if_neg (by simp [isP]), he]
    · have := h.rx k x r hk hr
      refine ⟨?_, ?_⟩
      · show _ = x.text.take (if i = k then _ else x.sent)
        rw [if_neg (Ne.symm hne)]
        exact this.1
      · show _ = if decide (i = k) = true then false else _
        rw [if_neg (by simp; omega), this.2, if_neg (by simp [isP])]
  · rcases set_get hk with ⟨rfl, rfl, _⟩ | ⟨hne, hk⟩
    · have := h.ch k c hc
      show Chn k c.acked acks (if k = k then c.sent else _) ∧ (if k = k then c.sent else _) ≤ c.sent + pieceN W S c
      rw [if_pos rfl]
      exact ⟨this.1, by omega⟩
    · have := h.ch k x hk
      show Chn k x.acked acks (if i = k then _ else x.sent) ∧ (if i = k then _ else x.sent) ≤ x.sent
      rw [if_neg (Ne.symm hne)]
      exact this
  · have := sum_set cs i c (goOn W S c) hc
    have := rem_on hok hS hw he
    omega
/-- An ack is told. -/
theorem Jp.ack {pend : Option (Nat × Nat)} {ts : List (List UInt8)} {cs : List Cl} {rs : List Rc} {acks : List (Nat × Nat)} {k n : Nat} (h : Jp pend ts cs rs ((k, n) :: acks)) :
    ∃ c, cs[k]? = some c ∧ ackOk cs (k : Nat) (n : Nat) = some c ∧ Jp pend ts (cs.set k (ackC c n)) rs acks ∧ remL (cs.set k (ackC c n)) = remL cs := by
  have hk : k < cs.length := h.ra (k, n) (List.mem_cons_self ..)
  have hc : cs[k]? = some cs[k] := List.getElem?_eq_getElem hk
  generalize cs[k] = c at hc
  have h1 := h.ch k c hc
  have h2 := h1.1
  unfold Chn at h2
  rw [if_pos rfl] at h2
  have hns := Chn.le h2.2
  have tg : ∀ j x m, tgt pend j (ackC x m) = tgt pend j x := fun j x m => by unfold tgt; cases pend <;> rfl
  refine ⟨c, hc, ?_, ⟨by rw [List.length_set]; exact h.len, by rw [List.length_set]; exact h.l10, h.rl, fun j x hj => ?_, fun x hx => ?_, fun j x r hj hr => ?_, fun j x hj => ?_, fun a ha => by rw [List.length_set]; exact h.ra a (List.mem_cons_of_mem _ ha)⟩, ?_⟩
  · unfold ackOk
    rw [if_pos (by omega)]
    simp only [Int.toNat_natCast, hc]
    rw [if_pos (by omega)]
  · rcases set_get hj with ⟨rfl, rfl, _⟩ | ⟨_, hj⟩
    · exact h.tx j c hc
    · exact h.tx j x hj
  · rcases mem_set hx with rfl | hx
    · exact ackC_ok (h.ok c (List.mem_of_getElem? hc)) (by omega)
    · exact h.ok x hx
  · rcases set_get hj with ⟨rfl, rfl, _⟩ | ⟨hne, hj⟩
    · rw [tg]
      exact h.rx j c r hc hr
    · exact h.rx j x r hj hr
  · rcases set_get hj with ⟨rfl, rfl, _⟩ | ⟨hne, hj⟩
    · rw [tg]
      exact ⟨h2.2, h1.2⟩
    · have h3 := h.ch j x hj
      have h4 := h3.1
      unfold Chn at h4
      rw [if_neg (Ne.symm hne)] at h4
      exact ⟨h4, h3.2⟩
  · have := sum_set cs k c (ackC c n) hc
    rw [rem_ack] at this
    omega
/-- What was sent is taken. -/
theorem Jp.take {ts : List (List UInt8)} {cs : List Cl} {rs : List Rc} {acks : List (Nat × Nat)} {i s0 n : Nat} {f : Fr} {c : Cl} (h : Jp (some (i, s0)) ts cs rs acks) (hc : cs[i]? = some c) (hn : c.sent = s0 + n) (hb : c.begun = true) (hf : f = ⟨i, s0, (c.text.drop s0).take n, decide (s0 + n = c.text.length)⟩) :
    ∃ r, rs[i]? = some r ∧ takes rs f = some r ∧ r.text.length + f.text.length = c.sent ∧ Jp none ts cs (rs.set i (onR r f)) (acks ++ [(i, c.sent)]) := by
  have hi := (List.getElem?_eq_some_iff.1 hc).1
  have h10 := h.l10
  have hr : rs[i]? = some (rs[i]'(by rw [h.rl]; omega)) := List.getElem?_eq_getElem _
  generalize rs[i]'(by rw [h.rl]; omega) = r at hr
  have hx := h.rx i c r hc hr
  have hok := h.ok c (List.mem_of_getElem? hc)
  have hs := hok.s
  have ht := hok.t
  have hxt : r.text = c.text.take s0 := by
    have := hx.1
    show r.text = c.text.take s0
    rw [this]
    show c.text.take (if i = i then s0 else _) = _
    rw [if_pos rfl]
  have hxd : r.done = false := by
    rw [hx.2]
    show (if decide (i = i) = true then false else _) = false
    rw [if_pos (by simp)]
  have hrl : r.text.length = s0 := by rw [hxt, List.length_take]; omega
  have hfl : f.text.length = n := by
    rw [hf]
    simp only [List.length_take, List.length_drop]
    omega
  refine ⟨r, hr, ?_, by omega, ⟨h.len, h10, by rw [List.length_set]; exact h.rl, h.tx, h.ok, fun k x q hk hq => ?_, fun k x hk => ?_, fun a ha => ?_⟩⟩
  · unfold takes
    rw [hf]
    simp only [Int.toNat_natCast]
    rw [if_pos (by omega), hr]
    simp only
    rw [if_pos ⟨hxd, by omega, by rw [hf] at hfl; simp only at hfl; omega⟩]
  · rcases set_get hq with ⟨rfl, rfl, _⟩ | ⟨hne, hq⟩
    · rw [hc] at hk
      injection hk with hk
      subst hk
      refine ⟨?_, ?_⟩
      · show r.text ++ f.text = c.text.take c.sent
        rw [hxt, hn, hf, List.take_add]
      · show f.last = _
        rw [if_neg (by simp [isP]), hf]
        unfold Cl.ended
        rw [hb, hn, Bool.true_and]
    · have h1 := h.rx k x q hk hq
      refine ⟨?_, ?_⟩
      · rw [h1.1]
        show x.text.take (if i = k then s0 else x.sent) = x.text.take x.sent
        rw [if_neg (Ne.symm hne)]
      · have e : isP (some (i, s0)) k = false := by
          show decide (i = k) = false
          simp
          omega
        rw [h1.2, e]
        rfl
  · have h1 := h.ch k x hk
    by_cases hki : k = i
    · subst hki
      rw [hc] at hk
      injection hk with hk
      subst hk
      have h2 : Chn k c.acked acks (if k = k then s0 else c.sent) := h1.1
      rw [if_pos rfl] at h2
      exact ⟨h2.snoc (by omega), Nat.le_refl _⟩
    · have h2 : Chn k x.acked acks (if i = k then s0 else x.sent) := h1.1
      rw [if_neg (Ne.symm hki)] at h2
      exact ⟨h2.other (Ne.symm hki), Nat.le_refl _⟩
  · rcases List.mem_append.1 ha with ha | ha
    · exact h.ra a ha
    · simp at ha
      rw [ha]
      exact hi
/-- Where something waits and nothing may be sent something is to be acked. -/
theorem Jp.some_ack {ts : List (List UInt8)} {cs : List Cl} {rs : List Rc} {acks : List (Nat × Nat)} (h : Jp none ts cs rs acks) {W : Int} (hW : 1 ≤ W) (hl : 0 < leftL cs) (hr : readyTo W cs cs.length = []) : acks ≠ [] := by
  intro e
  subst e
  obtain ⟨i, c, hc, he⟩ := left_pos hl
  have h1 : c.acked = c.sent := (h.ch i c hc).1
  refine may_ready (W := W) hc ?_ hr
  unfold mayB Cl.way
  rw [he, h1]
  simp only [Bool.not_false, Bool.true_and, decide_eq_true_eq]
  omega
/-- Where nothing waits all has come. -/
theorem Jp.whole {ts : List (List UInt8)} {cs : List Cl} {rs : List Rc} {acks : List (Nat × Nat)} (h : Jp none ts cs rs acks) (hl : leftL cs = 0) {k : Nat} {t : List UInt8} (hk : ts[k]? = some t) : rs[k]? = some ⟨t, true⟩ := by
  have hkl : k < cs.length := by rw [h.len]; exact (List.getElem?_eq_some_iff.1 hk).1
  have h10 := h.l10
  have hc : cs[k]? = some cs[k] := List.getElem?_eq_getElem hkl
  generalize cs[k] = c at hc
  have hr : rs[k]? = some (rs[k]'(by rw [h.rl]; omega)) := List.getElem?_eq_getElem _
  generalize rs[k]'(by rw [h.rl]; omega) = r at hr
  have h1 := h.rx k c r hc hr
  have he := left_zero hl c (List.mem_of_getElem? hc)
  have ht := h.tx k c hc
  rw [hk] at ht
  injection ht with ht
  rw [hr]
  obtain ⟨rt, rd⟩ := r
  simp only at h1
  have hs : c.sent = c.text.length := by
    unfold Cl.ended at he
    simp only [Bool.and_eq_true, decide_eq_true_eq] at he
    exact he.2
  rw [h1.2, if_neg (by simp [isP]), he, h1.1]
  show some (Rc.mk (c.text.take c.sent) true) = _
  rw [hs, List.take_length, ← ht]
end MX
end Go.Proofs.Ytdkfoakmjeealaa
