/- Texts of this seat, put one behind the other: RcPlain RcGrp. -/
import Derived.Test.YtmpmmebmhffaeaaGreatDoorQBase
import Derived.Maps.OwnOps
import Derived.Maps.AppendAt
import Derived.Maps.Views
set_option linter.all false
set_option maxRecDepth 100000
set_option maxHeartbeats 25600000
section
/- Layer 12 over lists: names in their order, items and what is agreed on (no program is read here). -/
namespace Go.Proofs.YtmpmmebmhffaeaaGreatDoor
open Go
namespace RC
open TP

/- texts byte by byte -/
def lexB : List UInt8 → List UInt8 → Bool
  | _, [] => false
  | [], _ :: _ => true
  | x :: xs, y :: ys => decide (x < y) || (decide (x = y) && lexB xs ys)
theorem lex_irr : ∀ a : List UInt8, lexB a a = false
  | [] => rfl
  | x :: xs => by
    unfold lexB
    rw [lex_irr xs]
    simp
theorem lex_trans : ∀ {a b c : List UInt8}, lexB a b = true → lexB b c = true → lexB a c = true
  | _, _, [], _, h => by simp [lexB] at h
  | _, [], _ :: _, h, _ => by simp [lexB] at h
  | [], _ :: _, _ :: _, _, _ => rfl
  | x :: xs, y :: ys, z :: zs, h, k => by
    unfold lexB at h k ⊢
    simp only [Bool.or_eq_true, Bool.and_eq_true, decide_eq_true_eq] at h k ⊢
    rcases h with h | ⟨rfl, h⟩
    · rcases k with k | ⟨rfl, k⟩
      · exact .inl (UInt8.lt_trans h k)
      · exact .inl h
    · rcases k with k | ⟨rfl, k⟩
      · exact .inl k
      · exact .inr ⟨rfl, lex_trans h k⟩
theorem lex_total : ∀ {a b : List UInt8}, lexB a b = false → a ≠ b → lexB b a = true
  | [], [], _, h => absurd rfl h
  | _ :: _, [], _, _ => rfl
  | [], _ :: _, h, _ => by simp [lexB] at h
  | x :: xs, y :: ys, h, hn => by
    unfold lexB at h ⊢
    simp only [Bool.or_eq_false_iff, Bool.and_eq_false_iff, decide_eq_false_iff_not] at h
    simp only [Bool.or_eq_true, Bool.and_eq_true, decide_eq_true_eq]
    by_cases he : x = y
    · subst he
      refine .inr ⟨rfl, lex_total ?_ (fun e => hn (by rw [e]))⟩
      rcases h.2 with h2 | h2
      · exact absurd rfl h2
      · exact h2
    · refine .inl ?_
      have h1 : y ≤ x := by simpa using h.1
      exact UInt8.lt_of_le_of_ne h1 (fun e => he e.symm)
def SortedK (l : List (List UInt8)) : Prop := l.Pairwise fun a b => lexB a b = true
def insK (x : List UInt8) : List (List UInt8) → List (List UInt8)
  | [] => [x]
  | y :: r => if lexB x y = true then x :: y :: r else if x = y then y :: r else y :: insK x r
/-- The names, each once, in their order. -/
def ordK (l : List (List UInt8)) : List (List UInt8) := l.foldr insK []
theorem mem_insK (x z : List UInt8) : ∀ l, z ∈ insK x l ↔ z = x ∨ z ∈ l
  | [] => by simp [insK]
  | y :: r => by
    unfold insK
    split
    · simp
    · split
      · rename_i h
        subst h
        simp
      · rw [List.mem_cons, mem_insK x z r, List.mem_cons]
        constructor
        · rintro (h | h | h)
          · exact .inr (.inl h)
          · exact .inl h
          · exact .inr (.inr h)
        · rintro (h | h | h)
          · exact .inr (.inl h)
          · exact .inl h
          · exact .inr (.inr h)
theorem sorted_insK (x : List UInt8) : ∀ l, SortedK l → SortedK (insK x l)
  | [], _ => List.pairwise_singleton _ _
  | y :: r, h => by
    have h1 := List.pairwise_cons.1 h
    unfold insK
    split
    · rename_i hx
      refine List.pairwise_cons.2 ⟨fun z hz => ?_, h⟩
      rcases List.mem_cons.1 hz with rfl | hz
      · exact hx
      · exact lex_trans hx (h1.1 z hz)
    · rename_i hx
      split
      · exact h
      · rename_i hne
        refine List.pairwise_cons.2 ⟨fun z hz => ?_, sorted_insK x r h1.2⟩
        rcases (mem_insK x z r).1 hz with rfl | hz
        · exact lex_total (by simpa using hx) hne
        · exact h1.1 z hz
theorem mem_ordK (z : List UInt8) : ∀ l, z ∈ ordK l ↔ z ∈ l
  | [] => by simp [ordK]
  | y :: r => by
    show z ∈ insK y (ordK r) ↔ _
    rw [mem_insK, mem_ordK z r, List.mem_cons]
theorem sorted_ordK : ∀ l, SortedK (ordK l)
  | [] => List.Pairwise.nil
  | y :: r => sorted_insK y _ (sorted_ordK r)
/-- Two lists in order with the same names are one. -/
theorem sortedK_ext : ∀ {l m : List (List UInt8)}, SortedK l → SortedK m → (∀ z, z ∈ l ↔ z ∈ m) → l = m
  | [], [], _, _, _ => rfl
  | [], y :: m, _, _, h => by
    have := (h y).2 (List.mem_cons_self ..)
    cases this
  | x :: l, [], _, _, h => by
    have := (h x).1 (List.mem_cons_self ..)
    cases this
  | x :: l, y :: m, hl, hm, h => by
    have h1 := List.pairwise_cons.1 hl
    have h2 := List.pairwise_cons.1 hm
    have hxy : x = y := by
      rcases List.mem_cons.1 ((h x).1 (List.mem_cons_self ..)) with e | e
      · exact e
      · rcases List.mem_cons.1 ((h y).2 (List.mem_cons_self ..)) with e2 | e2
        · exact e2.symm
        · have a := h1.1 y e2
          have b := h2.1 x e
          have c := lex_trans a b
          rw [lex_irr] at c
          cases c
    subst hxy
    have nx : ∀ {r : List (List UInt8)}, (∀ z ∈ r, lexB x z = true) → x ∉ r := fun hr hx => by
      have := hr x hx
      rw [lex_irr] at this
      cases this
    rw [sortedK_ext h1.2 h2.2 (fun z => ?_)]
    constructor
    · intro hz
      rcases List.mem_cons.1 ((h z).1 (List.mem_cons_of_mem _ hz)) with e | e
      · subst e
        exact absurd hz (nx h1.1)
      · exact e
    · intro hz
      rcases List.mem_cons.1 ((h z).2 (List.mem_cons_of_mem _ hz)) with e | e
      · subst e
        exact absurd hz (nx h2.1)
      · exact e
theorem ordK_congr {l m : List (List UInt8)} (h : ∀ z, z ∈ l ↔ z ∈ m) : ordK l = ordK m :=
  sortedK_ext (sorted_ordK l) (sorted_ordK m) fun z => (mem_ordK z l).trans ((h z).trans (mem_ordK z m).symm)
/- values: what a tree has at a path, with the paths from the root -/
def keyL (n : Nat) (p : List UInt8) : List UInt8 := (Lib.trimPrefix (p.drop n) [47]).takeWhile (fun c => decide (c ≠ 47))
def keysL : List Nd → List (List UInt8)
  | [] => []
  | h :: r => r.map fun n => keyL h.path.length n.path
def subL : List Nd → List UInt8 → List Nd
  | [], _ => []
  | h :: r, k => r.filter fun n => decide (keyL h.path.length n.path = k)
def dirV : List Nd → Bool
  | [] => false
  | h :: _ => decide (h.kind = 2)
def belowP (p k : List UInt8) : List UInt8 := Lib.trimPrefix (p ++ 47 :: k) [47]
theorem sub_len (v : List Nd) (k : List UInt8) (h : v ≠ []) : (subL v k).length < v.length := by
  cases v with
  | nil => exact absurd rfl h
  | cons x r =>
    have := List.length_filter_le (fun n : Nd => decide (keyL x.path.length n.path = k)) r
    show (r.filter _).length < r.length + 1
    omega
def namesK (o a b : List Nd) : List (List UInt8) := ordK (keysL o ++ keysL a ++ keysL b)
theorem namesK_swap (o a b : List Nd) : namesK o b a = namesK o a b := ordK_congr fun z => by
  simp only [List.mem_append]
  constructor
  · rintro ((h | h) | h)
    · exact .inl (.inl h)
    · exact .inr h
    · exact .inl (.inr h)
  · rintro ((h | h) | h)
    · exact .inl (.inl h)
    · exact .inr h
    · exact .inl (.inr h)
/-- An item: its path, what has happened there. -/
abbrev It := List UInt8 × Int
def itemsF : Nat → List UInt8 → List Nd → List Nd → List Nd → List It
  | 0, _, _, _, _ => []
  | f + 1, p, o, a, b =>
    if a = b then (if o = a then [] else [(p, 1)])
    else if dirV a = true ∧ dirV b = true then (namesK o a b).flatMap fun k => itemsF f (belowP p k) (subL o k) (subL a k) (subL b k)
    else if o = b then [(p, 2)] else if o = a then [(p, 3)] else [(p, 4)]
def agreedF : Nat → List Nd → List Nd → List Nd → List Nd
  | 0, _, _, _ => []
  | f + 1, o, a, b =>
    if a = b then a
    else if dirV a = true ∧ dirV b = true then a.take 1 ++ (namesK o a b).flatMap fun k => agreedF f (subL o k) (subL a k) (subL b k)
    else o
/-- As deep as A's value is great: then nothing is left over. -/
theorem items_more : ∀ (f g : Nat) (p : List UInt8) (o a b : List Nd), a.length < f → a.length < g → itemsF f p o a b = itemsF g p o a b
  | 0, _, _, _, _, _, h, _ => absurd h (Nat.not_lt_zero _)
  | _ + 1, 0, _, _, _, _, _, h => absurd h (Nat.not_lt_zero _)
  | f + 1, g + 1, p, o, a, b, h, k => by
    unfold itemsF
    by_cases h1 : a = b
    · rw [if_pos h1, if_pos h1]
    rw [if_neg h1, if_neg h1]
    by_cases h2 : dirV a = true ∧ dirV b = true
    · rw [if_pos h2, if_pos h2]
      have hne : a ≠ [] := fun e => by rw [e] at h2; cases h2.1
      congr 1
      funext x
      have := sub_len a x hne
      exact items_more f g _ _ _ _ (by omega) (by omega)
    · rw [if_neg h2, if_neg h2]
theorem agreed_more : ∀ (f g : Nat) (o a b : List Nd), a.length < f → a.length < g → agreedF f o a b = agreedF g o a b
  | 0, _, _, _, _, h, _ => absurd h (Nat.not_lt_zero _)
  | _ + 1, 0, _, _, _, _, h => absurd h (Nat.not_lt_zero _)
  | f + 1, g + 1, o, a, b, h, k => by
    unfold agreedF
    by_cases h1 : a = b
    · rw [if_pos h1, if_pos h1]
    rw [if_neg h1, if_neg h1]
    by_cases h2 : dirV a = true ∧ dirV b = true
    · rw [if_pos h2, if_pos h2]
      have hne : a ≠ [] := fun e => by rw [e] at h2; cases h2.1
      congr 2
      funext x
      have := sub_len a x hne
      exact agreed_more f g _ _ _ (by omega) (by omega)
    · rw [if_neg h2, if_neg h2]
def itemsL (p : List UInt8) (o a b : List Nd) : List It := itemsF (a.length + 1) p o a b
def agreedL (o a b : List Nd) : List Nd := agreedF (a.length + 1) o a b
/-- One step down. -/
theorem items_step (p : List UInt8) (o a b : List Nd) : itemsL p o a b = if a = b then (if o = a then [] else [(p, 1)])
    else if dirV a = true ∧ dirV b = true then (namesK o a b).flatMap fun k => itemsL (belowP p k) (subL o k) (subL a k) (subL b k)
    else if o = b then [(p, 2)] else if o = a then [(p, 3)] else [(p, 4)] := by
  unfold itemsL
  conv => lhs; unfold itemsF
  by_cases h1 : a = b
  · rw [if_pos h1, if_pos h1]
  rw [if_neg h1, if_neg h1]
  by_cases h2 : dirV a = true ∧ dirV b = true
  · rw [if_pos h2, if_pos h2]
    have hne : a ≠ [] := fun e => by rw [e] at h2; cases h2.1
    congr 1
    funext x
    have := sub_len a x hne
    exact items_more _ _ _ _ _ _ (by omega) (by omega)
  · rw [if_neg h2, if_neg h2]
theorem agreed_step (o a b : List Nd) : agreedL o a b = if a = b then a
    else if dirV a = true ∧ dirV b = true then a.take 1 ++ (namesK o a b).flatMap fun k => agreedL (subL o k) (subL a k) (subL b k)
    else o := by
  unfold agreedL
  conv => lhs; unfold agreedF
  by_cases h1 : a = b
  · rw [if_pos h1, if_pos h1]
  rw [if_neg h1, if_neg h1]
  by_cases h2 : dirV a = true ∧ dirV b = true
  · rw [if_pos h2, if_pos h2]
    have hne : a ≠ [] := fun e => by rw [e] at h2; cases h2.1
    congr 2
    funext x
    have := sub_len a x hne
    exact agreed_more _ _ _ _ _ (by omega) (by omega)
  · rw [if_neg h2, if_neg h2]
/-- With both exchanged the directions are. -/
def swapI (i : It) : It := (i.1, if i.2 = 2 then 3 else if i.2 = 3 then 2 else i.2)
theorem items_swapF : ∀ (f : Nat) (p : List UInt8) (o a b : List Nd), o ≠ a ∨ o ≠ b ∨ a = b → itemsF f p o b a = (itemsF f p o a b).map swapI
  | 0, _, _, _, _, _ => rfl
  | f + 1, p, o, a, b, _ => by
    unfold itemsF
    by_cases h1 : a = b
    · subst h1
      rw [if_pos rfl]
      by_cases h2 : o = a
      · rw [if_pos h2]; rfl
      · rw [if_neg h2]; rfl
    rw [if_neg h1, if_neg (fun e => h1 e.symm)]
    by_cases h2 : dirV a = true ∧ dirV b = true
    · rw [if_pos h2, if_pos ⟨h2.2, h2.1⟩, namesK_swap, List.map_flatMap]
      congr 1
      funext k
      refine items_swapF f _ _ _ _ ?_
      by_cases e : subL a k = subL b k
      · exact .inr (.inr e)
      · by_cases e2 : subL o k = subL a k
        · exact .inr (.inl (fun e3 => e (e2.symm.trans e3)))
        · exact .inl e2
    · rw [if_neg h2, if_neg (fun h => h2 ⟨h.2, h.1⟩)]
      by_cases h3 : o = a
      · have h4 : o ≠ b := fun e => h1 (h3.symm.trans e)
        rw [if_pos h3, if_neg h4, if_pos h3]; rfl
      · by_cases h4 : o = b
        · rw [if_neg h3, if_pos h4, if_pos h4]; rfl
        · rw [if_neg h3, if_neg h4, if_neg h4, if_neg h3]; rfl
theorem items_swap (p : List UInt8) (o a b : List Nd) : itemsL p o b a = (itemsL p o a b).map swapI := by
  have h : o ≠ a ∨ o ≠ b ∨ a = b := by
    by_cases e : a = b
    · exact .inr (.inr e)
    · by_cases e2 : o = a
      · exact .inr (.inl (fun e3 => e (e2.symm.trans e3)))
      · exact .inl e2
  have h2 : itemsF (max (a.length + 1) (b.length + 1)) p o b a = (itemsF (max (a.length + 1) (b.length + 1)) p o a b).map swapI := items_swapF _ p o a b h
  unfold itemsL
  rw [items_more (b.length + 1) (max (a.length + 1) (b.length + 1)) p o b a (by omega) (by omega), h2, items_more (a.length + 1) (max (a.length + 1) (b.length + 1)) p o a b (by omega) (by omega)]
theorem items_self (p : List UInt8) (o a : List Nd) : itemsL p o a a = if o = a then [] else [(p, 1)] := by rw [items_step, if_pos rfl]
theorem agreed_self (o a : List Nd) : agreedL o a a = a := by rw [agreed_step, if_pos rfl]
end RC
end Go.Proofs.YtmpmmebmhffaeaaGreatDoor
end
section
/- Layer 12: a map of lists of nodes that a call fills: what lies at each key. -/
namespace Go.Proofs.YtmpmmebmhffaeaaGreatDoor
open Go.RowKit Go.Lib Go.Maps
namespace RC
open OM TP TM

/-- An element of the map stands for itself. -/
def Rh (v : Value) : Option (DataW Value × List MemPlace) := some (.held v, [])
def nilS : Value := .slice none 0 0
theorem lawS : Keyed Tryz.prog 9 := string_keyed Tryz.underlying9
theorem keyS (S : ByteArray) (h : S.size ≤ maxLen) : keyOf Tryz.prog 9 (.string S) = some (.string S.data.toList) := by
  unfold keyOf
  rw [Tryz.underlying9]
  simp only
  unfold mapKey
  rw [Tryz.underlying9]
  simp [h]
structure Grp (W : World) (base b n : Nat) (D : DataW Value) (G : List UInt8 → List Nd) : Prop where
  map : W.ownsMap Tryz.prog 9 Rh b n D
  tidy : Tidy D
  own : ∀ k v, D.atKey (.string k) (.held nilS) = .held v → W.ownsRow base 40 4 v (G k).length (nodesC (G k))
  key : ∀ k, has D (.string k) = decide (G k ≠ [])
  apart : ∀ k k' v v', k ≠ k' → D.atKey (.string k) (.held nilS) = .held v → D.atKey (.string k') (.held nilS) = .held v' → v.ownBlock = none ∨ v.ownBlock ≠ v'.ownBlock
  lt : b < base
theorem keyLit (k : List UInt8) : WideAt.IsKeyLit (.string k) := trivial
theorem str_ne {k k' : List UInt8} (h : k ≠ k') : (Lit.string k) ≠ .string k' := fun e => h (by injection e)
/-- Made: nothing is there. -/
theorem grp_made (w : World) : Grp (w.alloc (.map #[] 0)) (w.heap.size + 1) w.heap.size 0 (.map []) (fun _ => []) where
  map := World.ownsMap_made _ _ _ _
  tidy := tidy_empty
  own := fun k v h => by
    have h2 : (DataW.held nilS : DataW Value) = .held v := h
    injection h2 with h2
    subst h2
    exact World.ownsRow_nil _ _ _ _
  key := fun k => by simp [Maps.has]
  apart := fun k k' v v' _ h _ => by
    have h2 : (DataW.held nilS : DataW Value) = .held v := h
    injection h2 with h2
    subst h2
    exact .inl rfl
  lt := Nat.lt_succ_self _
theorem Grp.mono {W : World} {base b n m : Nat} {D : DataW Value} {G : List UInt8 → List Nd} (h : Grp W base b n D G) (hm : n ≤ m) : Grp W base b m D G := { h with map := h.map.mono hm }
/-- What is done elsewhere leaves it. -/
theorem Grp.kept {W W' : World} {base b n : Nat} {D : DataW Value} {G : List UInt8 → List Nd} (h : Grp W base b n D G) (hg : W.grownBy W' none) : Grp W' base b n D G :=
  { h with map := h.map.kept hg (by simp), own := fun k v hv => (h.own k v hv).kept hg (by cases v.ownBlock <;> simp) }
/-- 'm[k]' at the operation. -/
theorem wpList_lookup_held {P : Program} (w : World) {ops : Array Oper} {rest : List Oper} {o : Oper} {a : Act} {Q : Exit → Act → World → Prop}
    (hg : o.guard = none) (m x : Operand) (t : TypeId) (hop : o.op = Op.lookup t m x false) (k e : TypeId) (K : Keyed P k) (ht : P.underlying t = some (.map k e)) (z : Value) (hz : (zeroValue e).run P w = .ok z w) (b n : Nat) (D : DataW Value)
    (hm : a.eval m = .map (some b)) (hown : w.ownsMap P k Rh b n D) (key : Value) (kl : Lit) (hx : a.eval x = key) (hkey : keyOf P k key = some kl)
    (hK : ∀ v, D.atKey kl (.held z) = .held v → wpList P ops Q rest (a.put o.dst v) w) : wpList P ops Q (o :: rest) a w := by
  refine wpList_plain hg fun K' hK' => ?_
  obtain ⟨v, ps, hrun, hv⟩ := hown.lookup (zd := .held z) (zp := []) K ht hz rfl hkey
  unfold Rh at hv
  injection hv with hv
  injection hv with hv _
  unfold Oper.wp
  simp [execOp, hop, hm, hx, hrun, Result.andThen]
  exact hK' _ _ (hK v hv.symm)
/-- 'm[k] = v' at the operation, by its run. -/
theorem wpList_update_run {P : Program} (w w2 : World) {ops : Array Oper} {rest : List Oper} {o : Oper} {a : Act} {Q : Exit → Act → World → Prop}
    (hg : o.guard = none) (m x v : Operand) (t : TypeId) (hop : o.op = Op.mapUpdate t m x v) (M key val : Value)
    (hm : a.eval m = M) (hx : a.eval x = key) (hv : a.eval v = val) (hrun : (Instr.mapUpdate t M key val).run P w = .ok () w2)
    (hK : wpList P ops Q rest (a.put o.dst undef) w2) : wpList P ops Q (o :: rest) a w := by
  refine wpList_plain hg fun K' hK' => ?_
  unfold Oper.wp
  simp [execOp, hop, hm, hx, hv, hrun, Result.andThen]
  exact hK' _ _ hK
/-- A node appended at a key. -/
theorem Grp.put {W w1 : World} {base b n : Nat} {D : DataW Value} {G : List UInt8 → List Nd} (h : Grp W base b n D G) (hn : n < maxLen) (k : List UInt8) {v v' : Value} (hv : D.atKey (.string k) (.held nilS) = .held v) {t e : TypeId} (ht : Tryz.prog.underlying t = some (.map 9 e)) {key : Value} (hkey : keyOf Tryz.prog 9 key = some (.string k)) (l : List Nd) (hl : l ≠ [])
    (hg : W.grownBy w1 v.ownBlock) (ho : w1.ownsRow base 40 4 v' l.length (nodesC l)) (hloc : v'.ownBlock = v.ownBlock ∨ ∃ g, v'.ownBlock = some g ∧ W.heap.size ≤ g) :
    ∃ w2, (Instr.mapUpdate t (.map (some b)) key v').run Tryz.prog w1 = .ok () w2 ∧ Grp w2 base b (n + 1) (D.put (.string k) (.held v')) (fun q => if q = k then l else G q) ∧ w1.grownBy w2 (some b) := by
  have hov := h.own k v hv
  have hvb : v.ownBlock ≠ some b := fun e1 => by
    have := (hov.lt b e1).1
    have := h.lt
    omega
  have hm1 := h.map.kept hg (fun e1 => hvb e1.symm)
  obtain ⟨w2, hrun, hm2, hg2⟩ := hm1.update lawS ht hn hkey (R := Rh) (val := v') (d := .held v') (ps := []) rfl
  have hv'b : ∀ u : Value, ∀ j xs, w1.ownsRow base 40 4 u j xs → u.ownBlock = none ∨ u.ownBlock ≠ some b := fun u j xs hu => by
    cases e1 : u.ownBlock with
    | none => exact .inl rfl
    | some g =>
      refine .inr (fun e2 => ?_)
      have := (hu.lt g e1).1
      have := h.lt
      injection e2 with e2
      omega
  -- an old element at another key is as it was
  have old : ∀ q u, q ≠ k → D.atKey (.string q) (.held nilS) = .held u → w1.ownsRow base 40 4 u (G q).length (nodesC (G q)) := fun q u hq hu => (h.own q u hu).kept hg (h.apart q k u v hq hu hv)
  have away : ∀ q u, q ≠ k → D.atKey (.string q) (.held nilS) = .held u → u.ownBlock = none ∨ u.ownBlock ≠ v'.ownBlock := fun q u hq hu => by
    rcases hloc with h1 | ⟨g, h1, h2⟩
    · rw [h1]; exact h.apart q k u v hq hu hv
    · cases e1 : u.ownBlock with
      | none => exact .inl rfl
      | some gu =>
        refine .inr (fun e2 => ?_)
        have := ((h.own q u hu).lt gu e1).2
        rw [h1] at e2
        injection e2 with e2
        omega
  have same : (D.put (.string k) (.held v')).atKey (.string k) (.held nilS) = .held v' := atKey_put_same h.tidy.isMap (keyLit k) _ _
  have other : ∀ q, q ≠ k → (D.put (.string k) (.held v')).atKey (.string q) (.held nilS) = D.atKey (.string q) (.held nilS) := fun q hq => atKey_put_other (str_ne hq) _ _
  refine ⟨w2, hrun, { map := hm2, tidy := h.tidy.put (keyLit k) _, own := fun q u hu => ?_, key := fun q => ?_, apart := fun q q' u u' hne hu hu' => ?_, lt := h.lt }, hg2⟩
  · by_cases hq : q = k
    · subst hq
      rw [same] at hu
      injection hu with hu
      subst hu
      rw [if_pos rfl]
      exact ho.kept hg2 (hv'b _ _ _ ho)
    · rw [other q hq] at hu
      rw [if_neg hq]
      exact (old q u hq hu).kept hg2 (hv'b _ _ _ (old q u hq hu))
  · by_cases hq : q = k
    · subst hq
      rw [has_put_same h.tidy.isMap (keyLit q), if_pos rfl]
      simp [hl]
    · rw [has_put_other (str_ne hq), if_neg hq]
      exact h.key q
  · by_cases hq : q = k
    · subst hq
      rw [same] at hu
      injection hu with hu
      subst hu
      rw [other q' (fun e => hne e.symm)] at hu'
      rcases away q' u' (fun e => hne e.symm) hu' with h1 | h1
      · cases e1 : v'.ownBlock with
        | none => exact .inl rfl
        | some g => exact .inr (by rw [h1]; simp)
      · exact .inr (fun e => h1 e.symm)
    · rw [other q hq] at hu
      by_cases hq' : q' = k
      · subst hq'
        rw [same] at hu'
        injection hu' with hu'
        subst hu'
        exact away q u hq hu
      · rw [other q' hq'] at hu'
        exact h.apart q q' u u' hne hu hu'
end RC
end Go.Proofs.YtmpmmebmhffaeaaGreatDoor
end
