/- Texts of this seat, put one behind the other: what its statements share (part 1). -/
import Derived.Test.YtfkaackhikbbkaaGreatDoorChecked
import Derived.Lib.OthersKept
import Derived.Laws.NewBlocks
import Derived.WalkMore
import Derived.Lib.Hide
import Derived.OwnWalk
import Derived.Laws.AppendOwn
import Derived.Laws.OwnMore
import Derived.Lib.ValidU
import Derived.Lib.Split
import Derived.Lib.SplitLaws
import Derived.Lib.Strings
import Derived.Lib.Join
import Derived.Lib.IndexMore
import Derived.Lib.IndexBytes
import Derived.Lib.LastIndexByte
import Derived.KernelRfl
import Derived.WalkKit
import Derived.IntWalk
import Derived.Below
import Derived.Deep.QuietTactic
import Derived.BigQuiet
import Derived.BigRegion
import Derived.Deep.RegionWith
import Derived.Lib.QuietBelow
import Derived.Shelf.Abstract
import Derived.Test.YtfkaackhikbbkaaGreatDoorShelf
import Derived.Laws.Cover4
import Derived.Deep.LoopGhost
import Derived.Shelf.Unicode.ValidAny
import Derived.Shelf.Strings.PiecesUse
import Derived.Lib.IndexLaws
section
/- What is owned stays owned (general; no function of the program is read here). -/
namespace Go.Proofs.YtfkaackhikbbkaaGreatDoor
open Go.RowKit Go.Lib
namespace OM

/-- The end of a body without results. -/
theorem end0 {P : Program} {fn : Func} {R : Ending → World → Prop} {a : Act} {w : World} (hr : fn.results = #[]) (hd : a.defers = []) (hR : R (.returned (.tuple #[])) w) : bodyPost P fn R .normal a w := by
  exact bodyPost_end (results_none hr _ _ _) hd hR
/- what is owned stays owned -/
theorem owns_below {w w' : World} {base e size : Nat} {v : Value} {n : Nat} {xs : List Value} (h : w.ownsRow base e size v n xs) (hb : Below w.heap.size w w') : w'.ownsRow base e size v n xs := by
  refine ⟨h.1, ?_⟩
  rcases h.2 with hn | ⟨g, cap, cur, rfl, hb', hgg, rest⟩
  · exact .inl hn
  · exact .inr ⟨g, cap, cur, rfl, hb', by rw [hb.block g (Array.getElem?_eq_some_iff.1 hgg).1]; exact hgg, rest⟩
theorem owns_others {w w' : World} {T base e size : Nat} {v : Value} {n : Nat} {xs : List Value} (h : w.ownsRow base e size v n xs) (hne : e ≠ T) (hk : OthersKept T none w w') : w'.ownsRow base e size v n xs := by
  refine ⟨h.1, ?_⟩
  rcases h.2 with hn | ⟨g, cap, cur, rfl, hb', hgg, rest⟩
  · exact .inl hn
  · refine .inr ⟨g, cap, cur, rfl, hb', hk g _ hgg (by simp) (fun c fz he => ?_), rest⟩
    simp only [Obj.cells.injEq] at he
    exact hne he.2.1
theorem owns_base {w : World} {base e size : Nat} {v : Value} {n : Nat} {xs : List Value} (h : w.ownsRow base e size v n xs) (base' : Nat) (hb : base' ≤ base) : w.ownsRow base' e size v n xs := by
  refine ⟨h.1, ?_⟩
  rcases h.2 with hn | ⟨g, cap, cur, rfl, hb', rest⟩
  · exact .inl hn
  · exact .inr ⟨g, cap, cur, rfl, by omega, rest⟩
theorem below_others {w w' : World} (h : Below w.heap.size w w') (T : Nat) (b : Option Nat) : OthersKept T b w w' := by
  intro k o hk _ _
  rw [h.block k (Array.getElem?_eq_some_iff.1 hk).1]
  exact hk
theorem owns_kind {w : World} {base e size : Nat} {v : Value} {n : Nat} {xs : List Value} (h : w.ownsRow base e size v n xs) : ∀ g, v.ownBlock = some g → ∃ c fz, w.heap[g]? = some (.cells c e fz) := by
  intro g hg
  rcases h.2 with ⟨rfl, _⟩ | ⟨g', cap, cur, rfl, _, hgg, _⟩
  · simp [Value.ownBlock] at hg
  · simp [Value.ownBlock] at hg
    subst hg
    exact ⟨cur, _, hgg⟩
theorem others_grown {w w' : World} {base e size : Nat} {v : Value} {n : Nat} {xs : List Value} (h : w.ownsRow base e size v n xs) (hg : w.grownBy w' v.ownBlock) : OthersKept e none w w' :=
  (OthersKept.refl e none w).grown hg (owns_kind h)
/-- An owned value, as its parts: where it is not empty it has an address, and the cells lie there. -/
theorem owns_view {w : World} {base e size : Nat} {v : Value} {n : Nat} {xs : List Value} (h : w.ownsRow base e size v n xs) : ∃ ao c, v = .slice ao n c ∧ (0 < n → ∃ g, ao = some ⟨g, 0, none⟩ ∧ g < w.heap.size ∧ base ≤ g ∧ ∀ j, j < n * size → w.cell? ⟨g, j, none⟩ = xs[j]?) := by
  have h0 := h
  rcases h.2 with ⟨rfl, rfl⟩ | ⟨g, cap, cur, rfl, hb, hgg, _⟩
  · exact ⟨none, 0, rfl, fun h => absurd h (Nat.lt_irrefl _)⟩
  · exact ⟨_, cap, rfl, fun _ => ⟨g, rfl, (Array.getElem?_eq_some_iff.1 hgg).1, hb, fun j hj => h0.cellAt j hj⟩⟩
theorem owns_len {w : World} {base e size : Nat} {v : Value} {n : Nat} {xs : List Value} (h : w.ownsRow base e size v n xs) : n ≤ maxLen := by
  rcases h.2 with ⟨_, rfl⟩ | ⟨g, cap, cur, _, _, _, h1, h2, _⟩
  · exact Nat.zero_le _
  · omega
theorem owns_one {w : World} {base e size : Nat} {v : Value} {n : Nat} {xs : List Value} (h : w.ownsRow base e size v n xs) : v.oneCell' = true := by
  obtain ⟨ao, c, rfl, _⟩ := owns_view h
  rfl

theorem owns_drew {w w' : World} {base e size : Nat} {v : Value} {n : Nat} {xs : List Value} (h : w.ownsRow base e size v n xs) (hb : Below w.heap.size w w') (base' : Nat) (hb2 : base' ≤ base) : w'.ownsRow base' e size v n xs := owns_base (owns_below h hb) base' hb2
theorem one_new (w : World) (x : Value) (t : TypeId) : ∀ (j : Nat) (u : Value), [x][j]? = some u → (w.alloc (.cells #[x] t)).cell? ((⟨w.heap.size, 0, none⟩ : Addr).add j) = some u := by
  intro j u hj
  match j with
  | 0 =>
    simp at hj
    subst hj
    have e : (⟨w.heap.size, 0, none⟩ : Addr).add 0 = ⟨w.heap.size, 0, none⟩ := rfl
    rw [e, World.cell?_alloc_at _ _ _ _ rfl]
    rfl
  | j + 1 => simp at hj
end OM
end Go.Proofs.YtfkaackhikbbkaaGreatDoor
end

section
/- Layer 1's answers over lists of bytes: a name, a path, the order of paths, what is within a path; and the plain facts about them (no program is read here). -/
namespace Go.Proofs.YtfkaackhikbbkaaGreatDoor.NP
open Go

def noneOf (l : List UInt8) : Bool := !(l.contains 47 || l.contains 0)
def nameL (l : List UInt8) : Bool := decide (l ≠ []) && decide (l.length ≤ 64) && decide (l ≠ [46]) && decide (l ≠ [46, 46]) && Lib.validD l && noneOf l
def allL (ls : List (List UInt8)) : Bool := ls.all nameL
def pathL (l : List UInt8) : Bool := decide (l.length ≤ 400) && decide (l.count 47 < 16) && allL (Lib.split l [47])
def rk (c : UInt8) : Nat := if c = 47 then 0 else c.toNat + 1
def cmpN (x y : Nat) : Int := if x < y then -1 else if y < x then 1 else 0
def ordN : List Nat → List Nat → Int
  | [], [] => 0
  | [], _ :: _ => -1
  | _ :: _, [] => 1
  | x :: xs, y :: ys => if x < y then -1 else if y < x then 1 else ordN xs ys
def ordL (a b : List UInt8) : Int := ordN (a.map rk) (b.map rk)
def restOk (q r : List UInt8) : Bool := decide (q = []) || decide (r = []) || decide (r.head? = some 47)
def withinL (p q : List UInt8) : Bool := pathL p && (Lib.hasPrefix p q && restOk q (p.drop q.length))

theorem rk_inj {x y : UInt8} (h : rk x = rk y) : x = y := by
  unfold rk at h
  split at h <;> split at h
  · simp_all
  · omega
  · omega
  · apply UInt8.toNat_inj.1; omega
theorem map_rk_inj : ∀ {a b : List UInt8}, a.map rk = b.map rk → a = b
  | [], [], _ => rfl
  | [], _ :: _, h => by simp at h
  | _ :: _, [], h => by simp at h
  | x :: a, y :: b, h => by
    simp only [List.map_cons, List.cons.injEq] at h
    rw [rk_inj h.1, map_rk_inj h.2]

theorem ordN_cases : ∀ a b : List Nat, ordN a b = -1 ∨ ordN a b = 0 ∨ ordN a b = 1
  | [], [] => by simp [ordN]
  | [], _ :: _ => by simp [ordN]
  | _ :: _, [] => by simp [ordN]
  | x :: a, y :: b => by
    unfold ordN
    split
    · simp
    · split
      · simp
      · exact ordN_cases a b
theorem ordN_swap : ∀ a b : List Nat, ordN b a = -ordN a b
  | [], [] => by simp [ordN]
  | [], _ :: _ => by simp [ordN]
  | _ :: _, [] => by simp [ordN]
  | x :: a, y :: b => by
    unfold ordN
    by_cases h : x < y
    · rw [if_pos h, if_neg (by omega), if_pos h]; rfl
    · by_cases h2 : y < x
      · rw [if_pos h2, if_neg h, if_pos h2]
      · rw [if_neg h2, if_neg h, if_neg h, if_neg h2]; exact ordN_swap a b
theorem ordN_self : ∀ a : List Nat, ordN a a = 0
  | [] => rfl
  | x :: a => by unfold ordN; rw [if_neg (by omega), if_neg (by omega)]; exact ordN_self a
theorem ordN_eq : ∀ {a b : List Nat}, ordN a b = 0 → a = b
  | [], [], _ => rfl
  | [], _ :: _, h => by simp [ordN] at h
  | _ :: _, [], h => by simp [ordN] at h
  | x :: a, y :: b, h => by
    unfold ordN at h
    split at h
    · omega
    · split at h
      · omega
      · have : x = y := by omega
        rw [this, ordN_eq h]
theorem ordN_trans : ∀ {a b c : List Nat}, ordN a b ≤ 0 → ordN b c ≤ 0 → ordN a c ≤ 0
  | [], _, [], _, _ => by simp [ordN]
  | [], _, _ :: _, _, _ => by simp [ordN]
  | _ :: _, [], _, h, _ => by simp [ordN] at h
  | _ :: _, _ :: _, [], _, h => by simp [ordN] at h
  | x :: a, y :: b, z :: c, h, k => by
    unfold ordN at h k ⊢
    by_cases h1 : x < z
    · rw [if_pos h1]; omega
    · rw [if_neg h1]
      by_cases hxy : x < y
      · have hyz : z < y := by omega
        rw [if_neg (by omega), if_pos hyz] at k; omega
      · rw [if_neg hxy] at h
        by_cases hyx : y < x
        · rw [if_pos hyx] at h; omega
        · rw [if_neg hyx] at h
          have e : x = y := by omega
          subst e
          rw [if_neg h1] at k
          by_cases hzx : z < x
          · rw [if_pos hzx] at k; omega
          · rw [if_neg hzx] at k ⊢
            exact ordN_trans h k
theorem ordL_cases (a b : List UInt8) : ordL a b = -1 ∨ ordL a b = 0 ∨ ordL a b = 1 := ordN_cases _ _
theorem ordL_swap (a b : List UInt8) : ordL b a = -ordL a b := ordN_swap _ _
theorem ordL_zero (a b : List UInt8) : ordL a b = 0 ↔ a = b := ⟨fun h => map_rk_inj (ordN_eq h), fun h => by subst h; exact ordN_self _⟩
theorem ordL_trans {a b c : List UInt8} (h : ordL a b ≤ 0) (k : ordL b c ≤ 0) : ordL a c ≤ 0 := ordN_trans h k
theorem ordL_lt {a b c : List UInt8} (h : ordL a b < 0) (k : ordL b c ≤ 0) : ordL a c < 0 := by
  have h1 := ordL_trans (Int.le_of_lt h) k
  rcases ordL_cases a c with e | e | e
  · omega
  · have := (ordL_zero a c).1 e
    subst this
    have := ordL_swap a b
    omega
  · omega

/- the loop's two ends -/
theorem ordN_append : ∀ (p a b : List Nat), ordN (p ++ a) (p ++ b) = ordN a b
  | [], _, _ => rfl
  | x :: p, a, b => by
    simp only [List.cons_append]
    rw [ordN, if_neg (by omega), if_neg (by omega)]
    exact ordN_append p a b
theorem ordL_append (p a b : List UInt8) : ordL (p ++ a) (p ++ b) = ordL a b := by
  unfold ordL; rw [List.map_append, List.map_append, ordN_append]
theorem ordL_miss {a b : List UInt8} {i : Nat} {x y : UInt8} (h : a.take i = b.take i) (ha : a[i]? = some x) (hb : b[i]? = some y) (hne : x ≠ y) :
    ordL a b = cmpN (rk x) (rk y) := by
  obtain ⟨hi, ha'⟩ := List.getElem?_eq_some_iff.1 ha
  obtain ⟨hj, hb'⟩ := List.getElem?_eq_some_iff.1 hb
  have ea : a = a.take i ++ x :: a.drop (i + 1) := by rw [← ha', ← List.drop_eq_getElem_cons hi, List.take_append_drop]
  have eb : b = a.take i ++ y :: b.drop (i + 1) := by rw [h, ← hb', ← List.drop_eq_getElem_cons hj, List.take_append_drop]
  rw [ea, eb, ordL_append]
  have hr : rk x ≠ rk y := fun e => hne (rk_inj e)
  simp only [ordL, List.map_cons, ordN, cmpN]
  split
  · rfl
  · rw [if_pos (by omega), if_pos (by omega)]
theorem ordL_end {a b : List UInt8} {m : Nat} (hm : m = min a.length b.length) (h : a.take m = b.take m) : ordL a b = cmpN a.length b.length := by
  unfold cmpN
  by_cases h1 : a.length < b.length
  · have e1 : m = a.length := by omega
    rw [e1, List.take_length] at h
    have eb : b = a ++ b.drop a.length := by conv => lhs; rw [← List.take_append_drop a.length b, ← h]
    rw [if_pos h1]
    have hl : b.drop a.length ≠ [] := by intro e; have := congrArg List.length e; simp at this; omega
    obtain ⟨z, r, hz⟩ := List.exists_cons_of_ne_nil hl
    have := ordL_append a [] (b.drop a.length)
    rw [List.append_nil, ← eb, hz] at this
    rw [this]; rfl
  · by_cases h2 : b.length < a.length
    · have e1 : m = b.length := by omega
      rw [e1, List.take_length] at h
      have ea : a = b ++ a.drop b.length := by conv => lhs; rw [← List.take_append_drop b.length a, h]
      rw [if_neg h1, if_pos h2]
      have hl : a.drop b.length ≠ [] := by intro e; have := congrArg List.length e; simp at this; omega
      obtain ⟨z, r, hz⟩ := List.exists_cons_of_ne_nil hl
      have := ordL_append b (a.drop b.length) []
      rw [List.append_nil, ← ea, hz] at this
      rw [this]; rfl
    · rw [if_neg h1, if_neg h2]
      have e1 : m = a.length := by omega
      have e2 : a.length = b.length := by omega
      rw [e1, List.take_length, e2, List.take_length] at h
      exact (ordL_zero a b).2 h

/- what is within a stands right behind a -/
theorem between {a b c : List UInt8} (hb : pathL b = true) (hw : withinL c a = true) (hx : ordL a b < 0) (hy : ordL b c < 0) : withinL b a = true := by
  unfold withinL at hw ⊢
  simp only [Bool.and_eq_true] at hw
  obtain ⟨_, hp, hr⟩ := hw
  unfold Lib.hasPrefix at hp ⊢
  rw [List.isPrefixOf_iff_prefix] at hp
  obtain ⟨r, rfl⟩ := hp
  rw [List.drop_left] at hr
  rw [hb, Bool.true_and]
  by_cases hpre : a <+: b
  · obtain ⟨s, rfl⟩ := hpre
    rw [Bool.and_eq_true, List.isPrefixOf_iff_prefix]
    refine ⟨⟨s, rfl⟩, ?_⟩
    rw [List.drop_left]
    rw [ordL_append] at hy
    unfold restOk at hr ⊢
    simp only [Bool.or_eq_true, decide_eq_true_eq] at hr ⊢
    rcases hr with (hr | hr) | hr
    · exact .inl (.inl hr)
    · subst hr
      cases s with
      | nil => exact .inl (.inr rfl)
      | cons z s => simp [ordL, ordN] at hy
    · cases r with
      | nil => simp at hr
      | cons w r =>
        simp only [List.head?_cons, Option.some.injEq] at hr
        subst hr
        cases s with
        | nil => exact .inl (.inr rfl)
        | cons z s =>
          refine .inr ?_
          by_cases hz : z = 47
          · simp [hz]
          · exfalso
            have h0 : rk 47 = 0 := rfl
            have h1 : 0 < rk z := by unfold rk; rw [if_neg hz]; omega
            simp only [ordL, List.map_cons, ordN] at hy
            rw [h0, if_neg (by omega), if_pos h1] at hy
            omega
  · -- a and b part at a place that both have: so b and a ++ r part there
    exfalso
    have key : ∀ (a b r : List UInt8), ¬ a <+: b → ordL a b < 0 → ¬ ordL b (a ++ r) < 0 := by
      intro a
      induction a with
      | nil => intro b r h _; exact absurd (List.nil_prefix) h
      | cons x a ih =>
        intro b r h h1 h2
        cases b with
        | nil => simp [ordL, ordN] at h1
        | cons y b =>
          simp only [ordL, List.map_cons, ordN, List.cons_append] at h1 h2
          by_cases e1 : rk x < rk y
          · rw [if_neg (by omega), if_pos e1] at h2; omega
          · rw [if_neg e1] at h1
            by_cases e2 : rk y < rk x
            · rw [if_pos e2] at h1; omega
            · rw [if_neg e2] at h1
              have e : x = y := rk_inj (by omega)
              subst e
              rw [if_neg (by omega), if_neg (by omega)] at h2
              exact ih b r (fun hp => h (by obtain ⟨t, rfl⟩ := hp; exact ⟨t, rfl⟩)) h1 h2
    exact key a b r hpre hx hy
end Go.Proofs.YtfkaackhikbbkaaGreatDoor.NP
end

section
/- Layer 1: a text cut at its slashes, put together again, its last part and what stands ahead of it: over lists of bytes. -/
namespace Go.Proofs.YtfkaackhikbbkaaGreatDoor.NP
open Go

def cutOn : List UInt8 → List (List UInt8)
  | [] => [[]]
  | x :: r => if x = 47 then [] :: cutOn r else match cutOn r with
    | [] => [[x]]
    | h :: t => (x :: h) :: t
theorem cutOn_ne (l : List UInt8) : cutOn l ≠ [] := by
  cases l with
  | nil => simp [cutOn]
  | cons x r =>
    unfold cutOn
    split
    · simp
    · split <;> simp
theorem index_cons_ne (x : UInt8) (r : List UInt8) (h : x ≠ 47) : Lib.index (x :: r) [47] = if Lib.index r [47] = -1 then -1 else Lib.index r [47] + 1 := by
  rw [Lib.index_one, Lib.index_one]
  rw [Lib.indexByte]
  have hx : (x == 47) = false := by simpa using h
  simp [hx]
theorem index_cons_eq (r : List UInt8) : Lib.index (47 :: r) [47] = 0 := by
  rw [Lib.index_one, Lib.indexByte]; simp
theorem split_cons_eq (r : List UInt8) : Lib.split (47 :: r) [47] = [] :: Lib.split r [47] := by
  unfold Lib.split
  rw [Lib.count_cons_eq, Nat.add_comm, Lib.splitK, index_cons_eq]
  rfl
theorem split_cons_ne (x : UInt8) (r : List UInt8) (h : x ≠ 47) : ∃ a t, Lib.split r [47] = a :: t ∧ Lib.split (x :: r) [47] = (x :: a) :: t := by
  unfold Lib.split
  rw [Lib.count_cons_ne x 47 r h]
  cases Lib.count r [47] with
  | zero => exact ⟨r, [], rfl, rfl⟩
  | succ k =>
    rw [Lib.splitK, Lib.splitK, index_cons_ne x r h]
    have hge := Lib.index_ge r [47]
    by_cases hm : Lib.index r [47] = -1
    · rw [hm]; exact ⟨r, [], rfl, rfl⟩
    · obtain ⟨i, hi⟩ : ∃ i : Nat, Lib.index r [47] = i := ⟨(Lib.index r [47]).toNat, by omega⟩
      rw [hi] at hm ⊢
      have e1 : (((i : Nat) : Int) == -1) = false := by rw [beq_eq_false_iff_ne]; omega
      have e2 : (((i : Nat) : Int) + 1 == -1) = false := by rw [beq_eq_false_iff_ne]; omega
      have e3 : (((i : Nat) : Int) + 1).toNat = i + 1 := by omega
      rw [if_neg (by rw [e1]; simp), if_neg (show ¬ ((i : Int) = -1) by omega), if_neg (by rw [e2]; simp), e3]
      exact ⟨_, _, rfl, by simp⟩
theorem split_eq : ∀ l : List UInt8, Lib.split l [47] = cutOn l
  | [] => rfl
  | x :: r => by
    by_cases h : x = 47
    · subst h
      rw [split_cons_eq, split_eq r]
      simp [cutOn]
    · obtain ⟨a, t, h1, h2⟩ := split_cons_ne x r h
      rw [h2]
      rw [split_eq r] at h1
      unfold cutOn
      rw [if_neg h, h1]
theorem cutOn_length : ∀ l : List UInt8, (cutOn l).length = l.count 47 + 1
  | [] => rfl
  | x :: r => by
    have ih := cutOn_length r
    unfold cutOn
    by_cases h : x = 47
    · subst h; simp [ih]
    · rw [if_neg h, List.count_cons_of_ne h]
      split
      · rename_i e; exact absurd e (cutOn_ne r)
      · rename_i e; rw [e] at ih; simpa using ih
theorem cutOn_join : ∀ l : List UInt8, Lib.join (cutOn l) [47] = l
  | [] => by simp [cutOn, Lib.join_one]
  | x :: r => by
    have ih := cutOn_join r
    unfold cutOn
    by_cases h : x = 47
    · subst h
      rw [if_pos rfl, Lib.join_cons]
      obtain ⟨a, t, e⟩ := List.exists_cons_of_ne_nil (cutOn_ne r)
      rw [e] at ih ⊢
      rw [Lib.join_cons] at ih
      simp [Lib.joinTail] at ih ⊢
      exact ih
    · rw [if_neg h]
      split
      · rename_i e; exact absurd e (cutOn_ne r)
      · rename_i e
        rw [e, Lib.join_cons] at ih
        rw [Lib.join_cons, List.cons_append, ih]
theorem cutOn_none : ∀ {l : List UInt8}, 47 ∉ l → cutOn l = [l]
  | [], _ => rfl
  | x :: r, h => by
    have hx : x ≠ 47 := by rintro rfl; simp at h
    have hr : 47 ∉ r := fun e => h (by simp [e])
    unfold cutOn
    rw [if_neg hx, cutOn_none hr]
theorem cutOn_snoc : ∀ {u t : List UInt8}, 47 ∉ t → cutOn (u ++ 47 :: t) = cutOn u ++ [t]
  | [], t, h => by
    show cutOn (47 :: t) = _
    unfold cutOn
    rw [if_pos rfl, cutOn_none h]
    rfl
  | x :: u, t, h => by
    have ih := cutOn_snoc (u := u) h
    show cutOn (x :: (u ++ 47 :: t)) = _
    unfold cutOn
    rw [ih]
    by_cases hx : x = 47
    · rw [if_pos hx, if_pos hx]; rfl
    · rw [if_neg hx, if_neg hx]
      obtain ⟨a, r, e⟩ := List.exists_cons_of_ne_nil (cutOn_ne u)
      rw [e]
      rfl
/-- What stands behind the last slash; what stands ahead of it. -/
def lastL (l : List UInt8) : List UInt8 := (l.reverse.takeWhile (· ≠ 47)).reverse
def upL (l : List UInt8) : List UInt8 := ((l.reverse.dropWhile (· ≠ 47)).drop 1).reverse
theorem rev_all {t : List UInt8} (h : 47 ∉ t) : ∀ x ∈ t.reverse, (decide (x ≠ 47)) = true := by
  intro x hx
  simp only [List.mem_reverse] at hx
  simp only [ne_eq, decide_eq_true_eq]
  rintro rfl
  exact h hx
theorem lastL_none {l : List UInt8} (h : 47 ∉ l) : lastL l = l := by
  unfold lastL
  have := List.takeWhile_append_of_pos (l₂ := []) (rev_all h)
  rw [List.append_nil, List.takeWhile_nil, List.append_nil] at this
  rw [this, List.reverse_reverse]
theorem upL_none {l : List UInt8} (h : 47 ∉ l) : upL l = [] := by
  unfold upL
  have := List.dropWhile_append_of_pos (l₂ := []) (rev_all h)
  rw [List.append_nil, List.dropWhile_nil] at this
  rw [this]
  rfl
theorem rev_cut (u t : List UInt8) (h : 47 ∉ t) : (u ++ 47 :: t).reverse.takeWhile (· ≠ 47) = t.reverse ∧ (u ++ 47 :: t).reverse.dropWhile (· ≠ 47) = 47 :: u.reverse := by
  have e : (u ++ 47 :: t).reverse = t.reverse ++ 47 :: u.reverse := by simp
  rw [e]
  rw [List.takeWhile_append_of_pos (rev_all h), List.dropWhile_append_of_pos (rev_all h)]
  simp
theorem lastL_snoc {u t : List UInt8} (h : 47 ∉ t) : lastL (u ++ 47 :: t) = t := by
  unfold lastL; rw [(rev_cut u t h).1, List.reverse_reverse]
theorem upL_snoc {u t : List UInt8} (h : 47 ∉ t) : upL (u ++ 47 :: t) = u := by
  unfold upL; rw [(rev_cut u t h).2]; simp
theorem parts (l : List UInt8) : 47 ∉ l ∨ ∃ u t, l = u ++ 47 :: t ∧ 47 ∉ t := by
  induction l with
  | nil => left; simp
  | cons x r ih =>
    rcases ih with h | ⟨u, t, rfl, h⟩
    · by_cases hx : x = 47
      · right; exact ⟨[], r, by simp [hx], h⟩
      · left; simp [Ne.symm hx, h]
    · right; exact ⟨x :: u, t, rfl, h⟩
/-- the place of the last slash -/
theorem last_at (s : ByteArray) : (Lib.lastIndexByte s 47 = -1 ∧ 47 ∉ s.data.toList) ∨ ∃ i : Nat, i < s.size ∧ Lib.lastIndexByte s 47 = i ∧ s.data.toList = s.data.toList.take i ++ 47 :: s.data.toList.drop (i + 1) ∧ 47 ∉ s.data.toList.drop (i + 1) := by
  have hsz := Lib.size_eq s
  have get : ∀ j (h : j < s.data.toList.length), s.data[j]! = s.data.toList[j] := fun j h => by rw [getElem!_pos s.data j (by simpa using h), Array.getElem_toList]
  rcases Lib.lastIndexByte_spec s 47 with ⟨h1, h2⟩ | ⟨i, h0, h1, h2, h3⟩
  · left
    refine ⟨h1, fun hm => ?_⟩
    obtain ⟨j, hj, e⟩ := List.getElem_of_mem hm
    have := h2 j (by omega)
    rw [get j hj, e] at this
    exact this rfl
  · right
    have hi : i < s.data.toList.length := by omega
    refine ⟨i, h0, h1, ?_, fun hm => ?_⟩
    · have hv : s.data.toList[i] = 47 := by
        rw [get i hi] at h2
        apply UInt8.toNat_inj.1
        show _ = 47
        omega
      have := List.drop_eq_getElem_cons hi
      rw [hv] at this
      rw [← this, List.take_append_drop]
    · obtain ⟨j, hj, e⟩ := List.getElem_of_mem hm
      rw [List.getElem_drop] at e
      have hj2 : i + 1 + j < s.data.toList.length := by simp at hj; omega
      have := h3 (i + 1 + j) (by omega) (by omega)
      rw [get _ hj2, e] at this
      exact this rfl
def parentL (l : List UInt8) : List UInt8 := if pathL l = true then upL l else []
def baseL (l : List UInt8) : List UInt8 := if pathL l = true then lastL l else []
end Go.Proofs.YtfkaackhikbbkaaGreatDoor.NP
end

section
/- The order of paths, part by part, is the order that the code reckons byte by byte; and what is within a path, part by part. -/
namespace Go.Proofs.YtfkaackhikbbkaaGreatDoor.NP
open Go

def cmpL : List UInt8 → List UInt8 → Int
  | [], [] => 0
  | [], _ :: _ => -1
  | _ :: _, [] => 1
  | x :: a, y :: b => if x.toNat < y.toNat then -1 else if y.toNat < x.toNat then 1 else cmpL a b
def cmpP : List (List UInt8) → List (List UInt8) → Int
  | [], [] => 0
  | [], _ :: _ => -1
  | _ :: _, [] => 1
  | x :: a, y :: b => if x = y then cmpP a b else cmpL x y
theorem ordL_cons (x y : UInt8) (a b : List UInt8) : ordL (x :: a) (y :: b) = if rk x < rk y then -1 else if rk y < rk x then 1 else ordL a b := rfl
theorem rk_lt {x y : UInt8} (hx : x ≠ 47) (hy : y ≠ 47) : rk x < rk y ↔ x.toNat < y.toNat := by
  unfold rk
  rw [if_neg hx, if_neg hy]
  exact ⟨fun h => by omega, fun h => by omega⟩
theorem rk_zero : rk 47 = 0 := rfl
theorem rk_pos {x : UInt8} (hx : x ≠ 47) : 0 < rk x := by unfold rk; rw [if_neg hx]; omega
def Ends (p : List UInt8) : Prop := p = [] ∨ ∃ r, p = 47 :: r
theorem ord_parts : ∀ (u v p q : List UInt8), 47 ∉ u → 47 ∉ v → u ≠ v → Ends p → Ends q → ordL (u ++ p) (v ++ q) = cmpL u v
  | [], [], _, _, _, _, h, _, _ => absurd rfl h
  | [], y :: v, p, q, _, hv, _, hp, _ => by
    have hy : y ≠ 47 := by rintro rfl; simp at hv
    rcases hp with rfl | ⟨r, rfl⟩
    · rfl
    · show ordL (47 :: r) (y :: (v ++ q)) = -1
      rw [ordL_cons, rk_zero, if_pos (rk_pos hy)]
  | x :: u, [], p, q, hu, _, _, _, hq => by
    have hx : x ≠ 47 := by rintro rfl; simp at hu
    rcases hq with rfl | ⟨r, rfl⟩
    · rfl
    · show ordL (x :: (u ++ p)) (47 :: r) = 1
      rw [ordL_cons, rk_zero, if_neg (by omega), if_pos (rk_pos hx)]
  | x :: u, y :: v, p, q, hu, hv, h, hp, hq => by
    have hx : x ≠ 47 := by rintro rfl; simp at hu
    have hy : y ≠ 47 := by rintro rfl; simp at hv
    have hu' : 47 ∉ u := fun e => hu (by simp [e])
    have hv' : 47 ∉ v := fun e => hv (by simp [e])
    show ordL (x :: (u ++ p)) (y :: (v ++ q)) = cmpL (x :: u) (y :: v)
    have k1 := rk_lt hx hy
    have k2 := rk_lt hy hx
    rw [ordL_cons, cmpL]
    by_cases h1 : x.toNat < y.toNat
    · rw [if_pos h1, if_pos (k1.2 h1)]
    · rw [if_neg h1, if_neg (fun e => h1 (k1.1 e))]
      by_cases h2 : y.toNat < x.toNat
      · rw [if_pos h2, if_pos (k2.2 h2)]
      · rw [if_neg h2, if_neg (fun e => h2 (k2.1 e))]
        have e : x = y := UInt8.toNat_inj.1 (by omega)
        subst e
        exact ord_parts u v p q hu' hv' (fun e => h (by rw [e])) hp hq
/-- a text: its first part, and what stands behind it -/
theorem first_part (l : List UInt8) : ∃ u p, l = u ++ p ∧ 47 ∉ u ∧ ((p = [] ∧ cutOn l = [u]) ∨ ∃ r, p = 47 :: r ∧ cutOn l = u :: cutOn r) := by
  induction l with
  | nil => exact ⟨[], [], rfl, by simp, .inl ⟨rfl, rfl⟩⟩
  | cons x r ih =>
    by_cases hx : x = 47
    · subst hx
      exact ⟨[], 47 :: r, rfl, by simp, .inr ⟨r, rfl, by rw [cutOn, if_pos rfl]⟩⟩
    · obtain ⟨u, p, rfl, hu, h⟩ := ih
      refine ⟨x :: u, p, rfl, by simp [Ne.symm hx, hu], ?_⟩
      rcases h with ⟨hp, hc⟩ | ⟨r, hp, hc⟩
      · exact .inl ⟨hp, by rw [cutOn, if_neg hx, hc]⟩
      · exact .inr ⟨r, hp, by rw [cutOn, if_neg hx, hc]⟩
theorem ord_cut : ∀ (n : Nat) (a b : List UInt8), a.length ≤ n → ordL a b = cmpP (cutOn a) (cutOn b)
  | n, a, b, hn => by
    obtain ⟨u, p, ea, hu, hp⟩ := first_part a
    obtain ⟨v, q, eb, hv, hq⟩ := first_part b
    have Ep : Ends p := by 
      rcases hp with ⟨h, _⟩ | ⟨r, h, _⟩
      · exact .inl h
      · exact .inr ⟨r, h⟩
    have Eq : Ends q := by 
      rcases hq with ⟨h, _⟩ | ⟨r, h, _⟩
      · exact .inl h
      · exact .inr ⟨r, h⟩
    by_cases huv : u = v
    · subst huv
      have h0 : ordL a b = ordL p q := by rw [ea, eb, ordL_append]
      rw [h0]
      rcases hp with ⟨rfl, hc⟩ | ⟨r, rfl, hc⟩ <;> rcases hq with ⟨rfl, hd⟩ | ⟨r', rfl, hd⟩
      · rw [hc, hd, cmpP, if_pos rfl]; rfl
      · rw [hc, hd, cmpP, if_pos rfl]
        obtain ⟨z, t, e⟩ := List.exists_cons_of_ne_nil (cutOn_ne r')
        rw [e]; rfl
      · rw [hc, hd, cmpP, if_pos rfl]
        obtain ⟨z, t, e⟩ := List.exists_cons_of_ne_nil (cutOn_ne r)
        rw [e]; rfl
      · rw [hc, hd, cmpP, if_pos rfl, ordL_cons, if_neg (by omega), if_neg (by omega)]
        match n, hn with
        | 0, hn => rw [ea] at hn; simp at hn
        | n + 1, hn => exact ord_cut n r r' (by rw [ea] at hn; simp at hn; omega)
    · have := ord_parts u v p q hu hv huv Ep Eq
      rw [← ea, ← eb] at this
      rw [this]
      have e1 : ∃ t, cutOn a = u :: t := by 
        rcases hp with ⟨_, h⟩ | ⟨r, _, h⟩
        · exact ⟨_, h⟩
        · exact ⟨_, h⟩
      have e2 : ∃ t, cutOn b = v :: t := by 
        rcases hq with ⟨_, h⟩ | ⟨r, _, h⟩
        · exact ⟨_, h⟩
        · exact ⟨_, h⟩
      obtain ⟨t, e1⟩ := e1
      obtain ⟨t', e2⟩ := e2
      rw [e1, e2, cmpP, if_neg huv]
theorem ordL_parts (a b : List UInt8) : ordL a b = cmpP (cutOn a) (cutOn b) := ord_cut a.length a b (Nat.le_refl _)
theorem cmpP_append : ∀ (p a b : List (List UInt8)), cmpP (p ++ a) (p ++ b) = cmpP a b
  | [], _, _ => rfl
  | x :: p, a, b => by
    simp only [List.cons_append]
    rw [cmpP, if_pos rfl]
    exact cmpP_append p a b
theorem cmpP_miss {a b : List (List UInt8)} {i : Nat} {x y : List UInt8} (h : a.take i = b.take i) (ha : a[i]? = some x) (hb : b[i]? = some y) (hne : x ≠ y) : cmpP a b = cmpL x y := by
  obtain ⟨hi, ha'⟩ := List.getElem?_eq_some_iff.1 ha
  obtain ⟨hj, hb'⟩ := List.getElem?_eq_some_iff.1 hb
  have ea : a = a.take i ++ x :: a.drop (i + 1) := by rw [← ha', ← List.drop_eq_getElem_cons hi, List.take_append_drop]
  have eb : b = a.take i ++ y :: b.drop (i + 1) := by rw [h, ← hb', ← List.drop_eq_getElem_cons hj, List.take_append_drop]
  rw [ea, eb, cmpP_append, cmpP, if_neg hne]
theorem cmpN_succ (m n : Nat) : cmpN (m + 1) (n + 1) = cmpN m n := by
  unfold cmpN
  repeat' split
  all_goals first | rfl | omega
theorem cmpP_end {a b : List (List UInt8)} {m : Nat} (hm : m = min a.length b.length) (h : a.take m = b.take m) : cmpP a b = cmpN a.length b.length := by
  have key : ∀ (a b : List (List UInt8)), a.take (min a.length b.length) = b.take (min a.length b.length) → cmpP a b = cmpN a.length b.length := by
    intro a
    induction a with
    | nil => intro b _; cases b <;> rfl
    | cons x a ih =>
      intro b hb
      cases b with
      | nil => rfl
      | cons y b =>
        have e : min (x :: a).length (y :: b).length = min a.length b.length + 1 := by simp only [List.length_cons]; omega
        rw [e, List.take_succ_cons, List.take_succ_cons] at hb
        injection hb with h1 h2
        rw [cmpP, if_pos h1, ih b h2]
        exact (cmpN_succ _ _).symm
  exact key a b (by rw [← hm]; exact h)

/- what is within a path -/
theorem cut_app : ∀ (q r : List UInt8), cutOn (q ++ 47 :: r) = cutOn q ++ cutOn r
  | [], r => by
    show cutOn (47 :: r) = [[]] ++ cutOn r
    simp [cutOn]
  | x :: q, r => by
    have ih := cut_app q r
    show cutOn (x :: (q ++ 47 :: r)) = _
    rw [cutOn, ih]
    by_cases hx : x = 47
    · rw [if_pos hx, cutOn, if_pos hx]; rfl
    · obtain ⟨a, t, e⟩ := List.exists_cons_of_ne_nil (cutOn_ne q)
      rw [if_neg hx, cutOn, if_neg hx, e]
      rfl
theorem join_app : ∀ {xs ys : List (List UInt8)}, xs ≠ [] → ys ≠ [] → Lib.join (xs ++ ys) [47] = Lib.join xs [47] ++ 47 :: Lib.join ys [47]
  | [], _, h, _ => absurd rfl h
  | x :: xs, ys, _, hy => by
    obtain ⟨y, t, rfl⟩ := List.exists_cons_of_ne_nil hy
    show Lib.join (x :: (xs ++ y :: t)) [47] = _
    rw [Lib.join_cons, Lib.join_cons, Lib.join_cons]
    simp [Lib.joinTail]
theorem path_pre {q r : List UInt8} (h : pathL (q ++ 47 :: r) = true) : pathL q = true := by
  unfold pathL at h ⊢
  simp only [Bool.and_eq_true, decide_eq_true_eq] at h ⊢
  obtain ⟨⟨h1, h2⟩, h3⟩ := h
  rw [split_eq, cut_app] at h3
  rw [split_eq]
  unfold allL at h3 ⊢
  rw [List.all_append, Bool.and_eq_true] at h3
  simp only [List.length_append, List.count_append] at h1 h2
  exact ⟨⟨by omega, by omega⟩, h3.1⟩
theorem within_parts {p q : List UInt8} (hp : pathL p = true) (hq : q ≠ []) : withinL p q = true ↔ pathL q = true ∧ cutOn q <+: cutOn p := by
  unfold withinL
  rw [hp, Bool.true_and, Bool.and_eq_true]
  unfold Lib.hasPrefix
  rw [List.isPrefixOf_iff_prefix]
  constructor
  · rintro ⟨⟨r, rfl⟩, hr⟩
    rw [List.drop_left] at hr
    unfold restOk at hr
    simp only [Bool.or_eq_true, decide_eq_true_eq] at hr
    rcases hr with (hr | hr) | hr
    · exact absurd hr hq
    · subst hr
      rw [List.append_nil] at hp ⊢
      exact ⟨hp, List.prefix_refl _⟩
    · cases r with
      | nil => simp at hr
      | cons z r =>
        simp only [List.head?_cons, Option.some.injEq] at hr
        subst hr
        exact ⟨path_pre hp, ⟨cutOn r, (cut_app q r).symm⟩⟩
  · rintro ⟨_, t, ht⟩
    have hj := cutOn_join p
    rw [← ht] at hj
    cases t with
    | nil =>
      rw [List.append_nil, cutOn_join] at hj
      subst hj
      exact ⟨List.prefix_refl _, by unfold restOk; simp⟩
    | cons y t =>
      rw [join_app (cutOn_ne q) (by simp), cutOn_join] at hj
      rw [← hj]
      refine ⟨⟨_, rfl⟩, ?_⟩
      rw [List.drop_left]
      unfold restOk
      simp
theorem within_root {p : List UInt8} (hp : pathL p = true) : withinL p [] = true := by
  unfold withinL Lib.hasPrefix restOk
  rw [hp]
  simp
theorem within_noq {p q : List UInt8} (hp : pathL p = true) (hq : q ≠ []) (h : pathL q = false) : withinL p q = false := by
  rw [Bool.eq_false_iff]
  intro e
  rw [((within_parts hp hq).1 e).1] at h
  cases h
theorem cut_inj {a b : List UInt8} (h : cutOn a = cutOn b) : a = b := by rw [← cutOn_join a, h, cutOn_join]
end Go.Proofs.YtfkaackhikbbkaaGreatDoor.NP
end

section
/- Layer 6 over lists: what is within a path, what stands above it, in the order of paths (no program is read here). -/
namespace Go.Proofs.YtfkaackhikbbkaaGreatDoor.TP
open Go NP

/-- A path counted from another one; that one itself, if it is empty. -/
def place (p q : List UInt8) : List UInt8 := if q = [] then p else p ++ 47 :: q
theorem place_nil (p : List UInt8) : place p [] = p := if_pos rfl
theorem place_ne (p : List UInt8) {q : List UInt8} (h : q ≠ []) : place p q = p ++ 47 :: q := if_neg h
theorem name_nil : nameL [] = false := rfl
theorem path_nil : pathL [] = false := rfl
theorem path_ne {p : List UInt8} (h : pathL p = true) : p ≠ [] := fun e => by rw [e, path_nil] at h; cases h
theorem path_iff (p : List UInt8) : pathL p = true ↔ p.length ≤ 400 ∧ p.count 47 < 16 ∧ allL (cutOn p) = true := by
  unfold pathL
  rw [split_eq]
  simp only [Bool.and_eq_true, decide_eq_true_eq]
  constructor
  · rintro ⟨⟨a, b⟩, c⟩; exact ⟨a, b, c⟩
  · rintro ⟨a, b, c⟩; exact ⟨⟨a, b⟩, c⟩
theorem allL_app (a b : List (List UInt8)) : allL (a ++ b) = (allL a && allL b) := by unfold allL; rw [List.all_append]
theorem path_tail {p r : List UInt8} (h : pathL (p ++ 47 :: r) = true) : pathL r = true := by
  rw [path_iff] at h ⊢
  obtain ⟨h1, h2, h3⟩ := h
  rw [cut_app, allL_app, Bool.and_eq_true] at h3
  simp only [List.length_append, List.length_cons, List.count_append, List.count_cons] at h1 h2
  exact ⟨by omega, by omega, h3.2⟩
theorem path_tail_ne {p r : List UInt8} (h : pathL (p ++ 47 :: r) = true) : r ≠ [] := path_ne (path_tail h)
theorem within_iff {n p : List UInt8} (hn : pathL n = true) (hp : p ≠ []) : withinL n p = true ↔ ∃ q, n = place p q := by
  unfold withinL Lib.hasPrefix
  rw [hn, Bool.true_and, Bool.and_eq_true, List.isPrefixOf_iff_prefix]
  constructor
  · rintro ⟨⟨r, rfl⟩, hr⟩
    rw [List.drop_left] at hr
    unfold restOk at hr
    simp only [Bool.or_eq_true, decide_eq_true_eq] at hr
    rcases hr with (hr | hr) | hr
    · exact absurd hr hp
    · subst hr
      exact ⟨[], by rw [place_nil, List.append_nil]⟩
    · cases r with
      | nil => simp at hr
      | cons z r =>
        simp only [List.head?_cons, Option.some.injEq] at hr
        subst hr
        exact ⟨r, by rw [place_ne p (path_tail_ne hn)]⟩
  · rintro ⟨q, rfl⟩
    by_cases hq : q = []
    · rw [hq, place_nil]
      exact ⟨List.prefix_refl _, by unfold restOk; simp⟩
    · rw [place_ne p hq]
      refine ⟨⟨_, rfl⟩, ?_⟩
      rw [List.drop_left]
      unfold restOk
      simp
theorem within_self {p : List UInt8} (h : pathL p = true) : withinL p p = true := (within_iff h (path_ne h)).2 ⟨[], (place_nil p).symm⟩
theorem within_path {n p : List UInt8} (h : withinL n p = true) : pathL n = true := by
  unfold withinL at h
  simp only [Bool.and_eq_true] at h
  exact h.1
theorem place_inj {p a b : List UInt8} (h : place p a = place p b) : a = b := by
  unfold place at h
  by_cases ha : a = []
  · rw [if_pos ha] at h
    by_cases hb : b = []
    · rw [ha, hb]
    · rw [if_neg hb] at h
      have := congrArg List.length h
      simp at this
  · rw [if_neg ha] at h
    by_cases hb : b = []
    · rw [if_pos hb] at h
      have := congrArg List.length h
      simp at this
    · rw [if_neg hb] at h
      have := List.append_cancel_left h
      simpa using this
theorem place_place (p a b : List UInt8) (ha : a ≠ []) : place p (place a b) = place (place p a) b := by
  by_cases hb : b = []
  · rw [hb, place_nil, place_nil]
  · have h1 : a ++ 47 :: b ≠ [] := by simp
    rw [place_ne a hb, place_ne p h1, place_ne p ha, place_ne _ hb]
    simp
/- what stands above -/
theorem up_cases (n : List UInt8) : (47 ∉ n ∧ upL n = [] ∧ lastL n = n) ∨ ∃ u t, n = u ++ 47 :: t ∧ 47 ∉ t ∧ upL n = u ∧ lastL n = t := by
  rcases parts n with h | ⟨u, t, rfl, h⟩
  · exact .inl ⟨h, upL_none h, lastL_none h⟩
  · exact .inr ⟨u, t, rfl, h, upL_snoc h, lastL_snoc h⟩
theorem up_last (n : List UInt8) (hn : pathL n = true) : n = if upL n = [] then lastL n else upL n ++ 47 :: lastL n := by
  rcases up_cases n with ⟨_, h1, h2⟩ | ⟨u, t, rfl, _, h1, h2⟩
  · rw [h1, if_pos rfl, h2]
  · rw [h1, h2, if_neg (path_ne (path_pre hn))]
theorem last_no (n : List UInt8) : 47 ∉ lastL n := by
  rcases up_cases n with ⟨h, _, h2⟩ | ⟨u, t, rfl, h, _, h2⟩
  · rw [h2]; exact h
  · rw [h2]; exact h
theorem up_short {n : List UInt8} (h : n ≠ []) : (upL n).length < n.length := by
  rcases up_cases n with ⟨_, h1, _⟩ | ⟨u, t, rfl, _, h1, _⟩
  · rw [h1]; exact List.length_pos_iff.2 h
  · rw [h1]; simp
theorem up_path {n : List UInt8} (hn : pathL n = true) (h : upL n ≠ []) : pathL (upL n) = true ∧ withinL n (upL n) = true := by
  rcases up_cases n with ⟨_, h1, _⟩ | ⟨u, t, rfl, _, h1, _⟩
  · exact absurd h1 h
  · rw [h1]
    refine ⟨path_pre hn, (within_iff hn (path_ne (path_pre hn))).2 ⟨t, (place_ne u (path_tail_ne hn)).symm⟩⟩
theorem up_place {p q : List UInt8} (hq : q ≠ []) (h : pathL (place p q) = true) : upL (place p q) = place p (upL q) := by
  rw [place_ne p hq] at h ⊢
  rcases up_cases q with ⟨h0, h1, _⟩ | ⟨u, t, rfl, h0, h1, _⟩
  · rw [h1, place_nil, upL_snoc h0]
  · have hu : u ≠ [] := path_ne (path_pre (path_tail h))
    rw [h1, place_ne p hu]
    have e : p ++ 47 :: (u ++ 47 :: t) = (p ++ 47 :: u) ++ 47 :: t := by simp
    rw [e, upL_snoc h0]
theorem last_place {p q : List UInt8} (hq : q ≠ []) : lastL (place p q) = lastL q := by
  rw [place_ne p hq]
  rcases up_cases q with ⟨h0, _, h2⟩ | ⟨u, t, rfl, h0, _, h2⟩
  · rw [h2, lastL_snoc h0]
  · rw [h2]
    have e : p ++ 47 :: (u ++ 47 :: t) = (p ++ 47 :: u) ++ 47 :: t := by simp
    rw [e, lastL_snoc h0]
/-- Below a path, what stands above is within it too. -/
theorem within_up {n p : List UInt8} (hw : withinL n p = true) (hp : p ≠ []) (hne : n ≠ p) : upL n ≠ [] ∧ withinL (upL n) p = true ∧ pathL (upL n) = true := by
  have hn := within_path hw
  obtain ⟨q, e⟩ := (within_iff hn hp).1 hw
  have hq : q ≠ [] := fun h => hne (by rw [e, h, place_nil])
  rw [e] at hn
  have e2 := up_place hq hn
  rw [← e] at e2 hn
  have hu : upL n ≠ [] := by
    rw [e2]
    unfold place
    split
    · exact hp
    · simp
  have hpu := (up_path hn hu).1
  exact ⟨hu, (within_iff hpu hp).2 ⟨_, e2⟩, hpu⟩
theorem within_of_up {n p : List UInt8} (hn : pathL n = true) (hp : p ≠ []) (hu : upL n ≠ []) (h : withinL (upL n) p = true) : withinL n p = true := by
  obtain ⟨hpu, _⟩ := up_path hn hu
  obtain ⟨q, e⟩ := (within_iff hpu hp).1 h
  have hl := up_last n hn
  rw [if_neg hu, e] at hl
  refine (within_iff hn hp).2 ?_
  by_cases hq : q = []
  · rw [hq, place_nil] at hl
    refine ⟨lastL n, ?_⟩
    rw [place_ne p ?_]
    · exact hl
    · rw [hl] at hn; exact path_tail_ne hn
  · rw [place_ne p hq] at hl
    refine ⟨q ++ 47 :: lastL n, ?_⟩
    rw [place_ne p (by simp)]
    exact hl.trans (by simp)
theorem within_trans {a b c : List UInt8} (h1 : withinL a b = true) (hb : b ≠ []) (h2 : withinL b c = true) (hc : c ≠ []) : withinL a c = true := by
  have ha := within_path h1
  obtain ⟨q, e⟩ := (within_iff ha hb).1 h1
  obtain ⟨r, e2⟩ := (within_iff (within_path h2) hc).1 h2
  refine (within_iff ha hc).2 ?_
  by_cases hr : r = []
  · rw [hr, place_nil] at e2
    exact ⟨q, by rw [e, e2]⟩
  · exact ⟨place r q, by rw [e, e2, place_place c r q hr]⟩
/- the order -/
theorem ord_place (p a b : List UInt8) : ordL (place p a) (place p b) = ordL a b := by
  by_cases ha : a = []
  · subst ha
    rw [place_nil]
    by_cases hb : b = []
    · subst hb; rw [place_nil]; exact (ordL_zero p p).2 rfl
    · rw [place_ne p hb]
      have := ordL_append p [] (47 :: b)
      rw [List.append_nil] at this
      rw [this]
      obtain ⟨x, r, rfl⟩ := List.exists_cons_of_ne_nil hb
      rfl
  · rw [place_ne p ha]
    by_cases hb : b = []
    · subst hb
      rw [place_nil]
      have := ordL_append p (47 :: a) []
      rw [List.append_nil] at this
      rw [this]
      obtain ⟨x, r, rfl⟩ := List.exists_cons_of_ne_nil ha
      rfl
    · rw [place_ne p hb, ordL_append]
      show ordL ([47] ++ a) ([47] ++ b) = _
      exact ordL_append [47] a b
theorem ord_nil (a : List UInt8) : ordL [] a ≤ 0 := by
  cases a with
  | nil => decide
  | cons x r => show (-1 : Int) ≤ 0; decide
theorem ord_below {n p : List UInt8} (hp : p ≠ []) (h : withinL n p = true) : ordL p n ≤ 0 := by
  obtain ⟨q, rfl⟩ := (within_iff (within_path h) hp).1 h
  have := ord_place p [] q
  rw [place_nil] at this
  rw [this]
  exact ord_nil q
theorem ord_neg {a b : List UInt8} (h : ordL a b < 0) : ¬ ordL b a < 0 := by
  have := ordL_swap a b
  omega
theorem ord_irr (a : List UInt8) : ¬ ordL a a < 0 := by
  have := (ordL_zero a a).2 rfl
  omega
theorem ord_lt {a b c : List UInt8} (h : ordL a b < 0) (k : ordL b c < 0) : ordL a c < 0 := ordL_lt h (Int.le_of_lt k)
theorem ord_le {a b c : List UInt8} (h : ordL a b ≤ 0) (k : ordL b c < 0) : ordL a c < 0 := by
  rcases ordL_cases a b with e | e | e
  · exact ord_lt (by omega) k
  · rw [(ordL_zero a b).1 e]; exact k
  · omega
theorem ord_tri (a b : List UInt8) : ordL a b < 0 ∨ a = b ∨ ordL b a < 0 := by
  rcases ordL_cases a b with e | e | e
  · exact .inl (by omega)
  · exact .inr (.inl ((ordL_zero a b).1 e))
  · exact .inr (.inr (by have := ordL_swap a b; omega))
/-- What isn't within a path but stands behind it, stands behind all that is within it. -/
theorem ord_behind {n c p : List UInt8} (hp : pathL p = true) (hn : pathL n = true) (hno : withinL n p = false) (hc : withinL c p = true) (h : ¬ ordL n p < 0) : ordL c n < 0 := by
  have hpn : ordL p n < 0 := by
    rcases ord_tri n p with e | e | e
    · exact absurd e h
    · rw [e, within_self hp] at hno; cases hno
    · exact e
  rcases ord_tri c n with e | e | e
  · exact e
  · rw [← e, hc] at hno; cases hno
  · rw [between hn hc hpn e] at hno; cases hno
/-- What stands ahead of a path, stands ahead of all that is within it. -/
theorem ord_ahead {n c p : List UInt8} (hp : p ≠ []) (hc : withinL c p = true) (h : ordL n p < 0) : ordL n c < 0 := ordL_lt h (ord_below hp hc)
end Go.Proofs.YtfkaackhikbbkaaGreatDoor.TP
end

section
/- Layer 6 over lists: nodes, trees, values; what stands at a path, and a tree with another value put there (no program is read here). -/
namespace Go.Proofs.YtfkaackhikbbkaaGreatDoor.TP
open Go NP

structure Nd where
  path : List UInt8
  kind : Int
  data : List UInt8
  mode : Int
  deriving DecidableEq
def rightB (n : Nd) : Bool :=
  if n.kind = 1 then decide (n.data.length ≤ 65536) && decide (0 ≤ n.mode) && decide (n.mode ≤ 511)
  else if n.kind = 2 then decide (n.data = []) && decide (n.mode = 0)
  else if n.kind = 3 then !(n.data.contains 0) && decide (1 ≤ n.data.length) && decide (n.data.length ≤ 400) && decide (n.mode = 0)
  else false
def findN (t : List Nd) (p : List UInt8) : Option Nd := t.find? fun n => decide (n.path = p)
def dirB (t : List Nd) (p : List UInt8) : Bool := decide (p = []) || (match findN t p with | some n => decide (n.kind = 2) | none => false)
def chainB : List Nd → Bool
  | a :: b :: r => decide (ordL a.path b.path < 0) && chainB (b :: r)
  | _ => true
def nodeB (t : List Nd) (n : Nd) : Bool := pathL n.path && rightB n && dirB t (parentL n.path)
def treeB (t : List Nd) : Bool := decide (t.length ≤ 1000) && t.all (nodeB t) && chainB t
def rightV : List Nd → Bool
  | [] => true
  | h :: r => decide (h.path = []) && rightB h && decide (r.length + 1 ≤ 1000) && (decide (r = []) || (decide (h.kind = 2) && treeB r))
def placeN (p : List UInt8) (n : Nd) : Nd := { n with path := place p n.path }
def cutN (p : List UInt8) (n : Nd) : Nd := { n with path := if n.path = p then [] else n.path.drop (p.length + 1) }
def root : Nd := ⟨[], 2, [], 0⟩
def atL (t : List Nd) (p : List UInt8) : List Nd :=
  if treeB t = true then (if p = [] then root :: t else (t.filter fun n => withinL n.path p).map (cutN p)) else []
def getL (t : List Nd) (p : List UInt8) : Option Nd := if treeB t = true then findN t p else none
def outL (t : List Nd) (p : List UInt8) (v : List Nd) : List Nd :=
  (t.filter fun n => !withinL n.path p && decide (ordL n.path p < 0)) ++ (v.map (placeN p) ++ t.filter fun n => !withinL n.path p && !decide (ordL n.path p < 0))
def putL (t : List Nd) (p : List UInt8) (v : List Nd) : List Nd × Nat :=
  if treeB t = false ∨ rightV v = false then ([], 60)
  else if pathL p = false then ([], 11)
  else if v ≠ [] ∧ dirB t (parentL p) = false then ([], 62)
  else if (v.all fun n => pathL (place p n.path)) = false then ([], 11)
  else if 1000 < (outL t p v).length then ([], 32)
  else (outL t p v, 0)

/- sorted lists -/
def lt (a b : Nd) : Prop := ordL a.path b.path < 0
def Sorted (t : List Nd) : Prop := t.Pairwise lt
theorem chain_iff : ∀ t : List Nd, chainB t = true ↔ Sorted t
  | [] => ⟨fun _ => List.Pairwise.nil, fun _ => rfl⟩
  | [a] => ⟨fun _ => List.pairwise_singleton _ _, fun _ => rfl⟩
  | a :: b :: r => by
    have ih := chain_iff (b :: r)
    rw [chainB, Bool.and_eq_true, decide_eq_true_eq, ih]
    constructor
    · rintro ⟨h1, h2⟩
      refine List.Pairwise.cons (fun c hc => ?_) h2
      rcases List.mem_cons.1 hc with rfl | hc
      · exact h1
      · exact ord_lt h1 (List.rel_of_pairwise_cons h2 hc)
    · intro h
      exact ⟨List.rel_of_pairwise_cons h (List.mem_cons_self ..), List.Pairwise.of_cons h⟩
theorem sorted_ext : ∀ {a b : List Nd}, Sorted a → Sorted b → (∀ n, n ∈ a ↔ n ∈ b) → a = b
  | [], [], _, _, _ => rfl
  | [], y :: b, _, _, h => absurd ((h y).2 (List.mem_cons_self ..)) (by simp)
  | x :: a, [], _, _, h => absurd ((h x).1 (List.mem_cons_self ..)) (by simp)
  | x :: a, y :: b, ha, hb, h => by
    have exy : x = y := by
      rcases List.mem_cons.1 ((h x).1 (List.mem_cons_self ..)) with e | e
      · exact e
      · rcases List.mem_cons.1 ((h y).2 (List.mem_cons_self ..)) with e2 | e2
        · exact e2.symm
        · exact absurd (List.rel_of_pairwise_cons ha e2) (ord_neg (List.rel_of_pairwise_cons hb e))
    subst exy
    rw [sorted_ext (List.Pairwise.of_cons ha) (List.Pairwise.of_cons hb) fun n => ?_]
    constructor
    · intro hn
      rcases List.mem_cons.1 ((h n).1 (List.mem_cons_of_mem _ hn)) with e | e
      · subst e; exact absurd (List.rel_of_pairwise_cons ha hn) (ord_irr _)
      · exact e
    · intro hn
      rcases List.mem_cons.1 ((h n).2 (List.mem_cons_of_mem _ hn)) with e | e
      · subst e; exact absurd (List.rel_of_pairwise_cons hb hn) (ord_irr _)
      · exact e
theorem sorted_one : ∀ {t : List Nd}, Sorted t → ∀ {a b : Nd}, a ∈ t → b ∈ t → a.path = b.path → a = b
  | [], _, a, _, ha, _, _ => by simp at ha
  | x :: r, h, a, b, ha, hb, e => by
    rcases List.mem_cons.1 ha with h1 | h1
    · rcases List.mem_cons.1 hb with h2 | h2
      · rw [h1, h2]
      · have h3 : lt x b := List.rel_of_pairwise_cons h h2
        unfold lt at h3
        rw [← h1, e] at h3
        exact absurd h3 (ord_irr _)
    · rcases List.mem_cons.1 hb with h2 | h2
      · have h3 : lt x a := List.rel_of_pairwise_cons h h1
        unfold lt at h3
        rw [← h2, e] at h3
        exact absurd h3 (ord_irr _)
      · exact sorted_one (List.Pairwise.of_cons h) h1 h2 e
theorem sorted_filter {t : List Nd} (h : Sorted t) (f : Nd → Bool) : Sorted (t.filter f) := List.Pairwise.filter f h

/- what a tree is -/
def Dir (t : List Nd) (p : List UInt8) : Prop := p = [] ∨ ∃ d ∈ t, d.path = p ∧ d.kind = 2
theorem find_mem {t : List Nd} {p : List UInt8} {n : Nd} (h : findN t p = some n) : n ∈ t ∧ n.path = p := by
  unfold findN at h
  have h1 := List.find?_some h
  simp at h1
  exact ⟨List.mem_of_find?_eq_some h, h1⟩
theorem find_of {t : List Nd} (hs : Sorted t) {n : Nd} (h : n ∈ t) : findN t n.path = some n := by
  cases hf : findN t n.path with
  | none =>
    unfold findN at hf
    rw [List.find?_eq_none] at hf
    have := hf n h
    simp at this
  | some m =>
    obtain ⟨h1, h2⟩ := find_mem hf
    rw [sorted_one hs h1 h h2]
theorem dir_iff {t : List Nd} (hs : Sorted t) (p : List UInt8) : dirB t p = true ↔ Dir t p := by
  unfold dirB Dir
  rw [Bool.or_eq_true, decide_eq_true_eq]
  refine or_congr Iff.rfl ?_
  constructor
  · intro h
    cases hf : findN t p with
    | none => rw [hf] at h; cases h
    | some n =>
      rw [hf] at h
      simp at h
      exact ⟨n, (find_mem hf).1, (find_mem hf).2, h⟩
  · rintro ⟨d, hd, rfl, hk⟩
    rw [find_of hs hd]
    simpa using hk
structure Tree (t : List Nd) : Prop where
  len : t.length ≤ 1000
  sorted : Sorted t
  path : ∀ n ∈ t, pathL n.path = true
  right : ∀ n ∈ t, rightB n = true
  dir : ∀ n ∈ t, Dir t (upL n.path)
theorem tree_iff (t : List Nd) : treeB t = true ↔ Tree t := by
  unfold treeB
  rw [Bool.and_eq_true, Bool.and_eq_true, decide_eq_true_eq, chain_iff, List.all_eq_true]
  constructor
  · rintro ⟨⟨h1, h2⟩, h3⟩
    have h4 : ∀ n ∈ t, pathL n.path = true ∧ rightB n = true ∧ dirB t (parentL n.path) = true := fun n hn => by
      have := h2 n hn
      unfold nodeB at this
      rw [Bool.and_eq_true, Bool.and_eq_true] at this
      exact ⟨this.1.1, this.1.2, this.2⟩
    refine ⟨h1, h3, fun n hn => (h4 n hn).1, fun n hn => (h4 n hn).2.1, fun n hn => ?_⟩
    have := (h4 n hn).2.2
    rw [show parentL n.path = upL n.path by unfold parentL; rw [if_pos (h4 n hn).1]] at this
    exact (dir_iff h3 _).1 this
  · intro h
    refine ⟨⟨h.len, fun n hn => ?_⟩, h.sorted⟩
    unfold nodeB
    rw [h.path n hn, h.right n hn, show parentL n.path = upL n.path by unfold parentL; rw [if_pos (h.path n hn)], (dir_iff h.sorted _).2 (h.dir n hn)]
    rfl
theorem tree_nil : Tree [] := ⟨by simp, List.Pairwise.nil, by simp, by simp, by simp⟩
/-- What stands below a path: that path is a directory of the tree. -/
theorem tree_above {t : List Nd} (ht : Tree t) {p : List UInt8} (hp : p ≠ []) : ∀ (k : Nat) (n : Nd), n.path.length ≤ k → n ∈ t → withinL n.path p = true → n.path ≠ p → ∃ d ∈ t, d.path = p ∧ d.kind = 2
  | 0, n, hk, hn, _, _ => absurd (List.eq_nil_of_length_eq_zero (by omega)) (path_ne (ht.path n hn))
  | k + 1, n, hk, hn, hw, hne => by
    obtain ⟨hu, hw2, _⟩ := within_up hw hp hne
    rcases ht.dir n hn with e | ⟨d, hd, e, hk2⟩
    · exact absurd e hu
    · by_cases hdp : d.path = p
      · exact ⟨d, hd, hdp, hk2⟩
      · refine tree_above ht hp k d ?_ hd (by rw [e]; exact hw2) hdp
        have := up_short (path_ne (ht.path n hn))
        rw [e]
        omega
end Go.Proofs.YtfkaackhikbbkaaGreatDoor.TP
end

section
/- Layer 6 over lists: what is put is there, and all else is as it was (no program is read here). -/
namespace Go.Proofs.YtfkaackhikbbkaaGreatDoor.TP
open Go NP

theorem up_lt {n : List UInt8} (hn : pathL n = true) : ordL (upL n) n < 0 := by
  have h0 := path_ne hn
  by_cases hu : upL n = []
  · rw [hu]
    obtain ⟨x, r, rfl⟩ := List.exists_cons_of_ne_nil h0
    show (-1 : Int) < 0
    decide
  · obtain ⟨hp, hw⟩ := up_path hn hu
    have h1 := ord_below hu hw
    rcases ord_tri (upL n) n with e | e | e
    · exact e
    · have := up_short h0
      rw [e] at this
      omega
    · have := ordL_swap n (upL n)
      omega
theorem nil_lt {n : List UInt8} (h : n ≠ []) : ordL [] n < 0 := by
  obtain ⟨x, r, rfl⟩ := List.exists_cons_of_ne_nil h
  show (-1 : Int) < 0
  decide
/-- What a value is. -/
structure Val (v : List Nd) : Prop where
  sorted : Sorted v
  len : v.length ≤ 1000
  right : ∀ m ∈ v, rightB m = true
  path : ∀ m ∈ v, m.path = [] ∨ pathL m.path = true
  dir : ∀ m ∈ v, m.path ≠ [] → ∃ d ∈ v, d.path = upL m.path ∧ d.kind = 2
theorem Val.nil : Val [] := ⟨List.Pairwise.nil, by simp, by simp, by simp, by simp⟩
theorem val_iff (v : List Nd) : rightV v = true ↔ Val v := by
  cases v with
  | nil => exact ⟨fun _ => Val.nil, fun _ => rfl⟩
  | cons h r =>
    unfold rightV
    simp only [Bool.and_eq_true, Bool.or_eq_true, decide_eq_true_eq]
    constructor
    · rintro ⟨⟨⟨h1, h2⟩, h3⟩, h4⟩
      have key : r = [] ∨ h.kind = 2 ∧ Tree r := h4.imp id fun e => ⟨e.1, (tree_iff r).1 e.2⟩
      rcases key with rfl | ⟨hk, ht⟩
      · refine ⟨List.pairwise_singleton _ _, by simp, fun m hm => ?_, fun m hm => ?_, fun m hm hne => ?_⟩
        · simp at hm; rw [hm]; exact h2
        · simp at hm; rw [hm]; exact .inl h1
        · simp at hm; rw [hm] at hne; exact absurd h1 hne
      · refine ⟨List.Pairwise.cons (fun m hm => ?_) ht.sorted, h3, fun m hm => ?_, fun m hm => ?_, fun m hm hne => ?_⟩
        · unfold lt; rw [h1]; exact nil_lt (path_ne (ht.path m hm))
        · rcases List.mem_cons.1 hm with rfl | hm
          · exact h2
          · exact ht.right m hm
        · rcases List.mem_cons.1 hm with rfl | hm
          · exact .inl h1
          · exact .inr (ht.path m hm)
        · rcases List.mem_cons.1 hm with rfl | hm
          · exact absurd h1 hne
          · rcases ht.dir m hm with e | ⟨d, hd, e1, e2⟩
            · exact ⟨h, List.mem_cons_self .., by rw [h1, e], hk⟩
            · exact ⟨d, List.mem_cons_of_mem _ hd, e1, e2⟩
    · intro hv
      have hs := hv.sorted
      have h1 : h.path = [] := by
        by_cases e : h.path = []
        · exact e
        · exfalso
          obtain ⟨d, hd, e1, _⟩ := hv.dir h (List.mem_cons_self ..) e
          have hp : pathL h.path = true := (hv.path h (List.mem_cons_self ..)).resolve_left e
          have hlt := up_lt hp
          rw [← e1] at hlt
          rcases List.mem_cons.1 hd with rfl | hd
          · exact ord_irr _ hlt
          · exact ord_neg (List.rel_of_pairwise_cons hs hd) hlt
      have hne : ∀ m ∈ r, m.path ≠ [] := fun m hm e => by
        have : lt h m := List.rel_of_pairwise_cons hs hm
        unfold lt at this
        rw [h1, e] at this
        exact ord_irr _ this
      have ht : Tree r := ⟨by have := hv.len; simp at this; omega, List.Pairwise.of_cons hs, fun m hm => (hv.path m (List.mem_cons_of_mem _ hm)).resolve_left (hne m hm), fun m hm => hv.right m (List.mem_cons_of_mem _ hm), fun m hm => by
        obtain ⟨d, hd, e1, e2⟩ := hv.dir m (List.mem_cons_of_mem _ hm) (hne m hm)
        rcases List.mem_cons.1 hd with rfl | hd
        · exact .inl (by rw [← e1, h1])
        · exact .inr ⟨d, hd, e1, e2⟩⟩
      refine ⟨⟨⟨h1, hv.right h (List.mem_cons_self ..)⟩, hv.len⟩, ?_⟩
      cases r with
      | nil => exact .inl rfl
      | cons m r =>
        refine .inr ⟨?_, (tree_iff _).2 ht⟩
        obtain ⟨d, hd, e1, e2⟩ := hv.dir m (by simp) (hne m (by simp))
        have hlt := up_lt (ht.path m (by simp))
        rw [← e1] at hlt
        rcases List.mem_cons.1 hd with rfl | hd
        · exact e2
        · exfalso
          rcases List.mem_cons.1 hd with rfl | hd
          · exact ord_irr _ hlt
          · exact ord_neg (List.rel_of_pairwise_cons ht.sorted hd) hlt
theorem Val.head {v : List Nd} (h : Val v) (h0 : v ≠ []) : ∃ m ∈ v, m.path = [] := by
  have h1 := (val_iff v).2 h
  cases v with
  | nil => exact absurd rfl h0
  | cons m r =>
    unfold rightV at h1
    simp only [Bool.and_eq_true, decide_eq_true_eq] at h1
    exact ⟨m, List.mem_cons_self .., h1.1.1.1⟩
theorem Val.below {v : List Nd} (h : Val v) {m : Nd} (hm : m ∈ v) (hne : m.path ≠ []) : pathL m.path = true := (h.path m hm).resolve_left hne

/- to place and to cut -/
theorem placeN_inj {p : List UInt8} {a b : Nd} (h : placeN p a = placeN p b) : a = b := by
  unfold placeN at h
  cases a; cases b
  simp only [Nd.mk.injEq] at h ⊢
  exact ⟨place_inj h.1, h.2⟩
theorem cut_place (p : List UInt8) (n : Nd) : cutN p (placeN p n) = n := by
  unfold cutN placeN
  cases n with
  | mk q k d m =>
    simp only [Nd.mk.injEq, and_true]
    by_cases hq : q = []
    · rw [hq, place_nil, if_pos rfl]
    · rw [place_ne p hq, if_neg (fun e => by have := congrArg List.length e; simp at this), show p.length + 1 = (p ++ [47]).length by simp, show p ++ 47 :: q = (p ++ [47]) ++ q by simp, List.drop_left]
theorem place_within {p : List UInt8} (hp : p ≠ []) {n : Nd} (h : pathL (place p n.path) = true) : withinL (placeN p n).path p = true := (within_iff h hp).2 ⟨_, rfl⟩
theorem within_place {p : List UInt8} (hp : p ≠ []) {y : Nd} (h : withinL y.path p = true) : ∃ n, y = placeN p n := by
  obtain ⟨q, e⟩ := (within_iff (within_path h) hp).1 h
  exact ⟨{ y with path := q }, by unfold placeN; cases y; simp_all⟩

/- what stands at a path -/
theorem at_mem {t : List Nd} (ht : Tree t) {p : List UInt8} (hp : pathL p = true) (n : Nd) : n ∈ atL t p ↔ placeN p n ∈ t := by
  unfold atL
  rw [if_pos ((tree_iff t).2 ht), if_neg (path_ne hp), List.mem_map]
  constructor
  · rintro ⟨y, hy, rfl⟩
    rw [List.mem_filter] at hy
    obtain ⟨m, rfl⟩ := within_place (path_ne hp) hy.2
    rw [cut_place]
    exact hy.1
  · intro h
    exact ⟨placeN p n, List.mem_filter.2 ⟨h, place_within (path_ne hp) (ht.path _ h)⟩, cut_place p n⟩
theorem at_sorted {t : List Nd} (ht : Tree t) {p : List UInt8} (hp : pathL p = true) : Sorted (atL t p) := by
  unfold atL
  rw [if_pos ((tree_iff t).2 ht), if_neg (path_ne hp)]
  unfold Sorted
  rw [List.pairwise_map]
  refine List.Pairwise.imp_of_mem (fun {a b} ha hb hlt => ?_) (sorted_filter ht.sorted _)
  rw [List.mem_filter] at ha hb
  obtain ⟨m, rfl⟩ := within_place (path_ne hp) ha.2
  obtain ⟨k, rfl⟩ := within_place (path_ne hp) hb.2
  unfold lt at hlt ⊢
  rw [cut_place, cut_place]
  have e := ord_place p m.path k.path
  rw [← e]
  exact hlt
theorem at_val {t : List Nd} (ht : Tree t) {p : List UInt8} (hp : pathL p = true) : Val (atL t p) := by
  have hp0 := path_ne hp
  refine ⟨at_sorted ht hp, ?_, fun m hm => ?_, fun m hm => ?_, fun m hm hne => ?_⟩
  · unfold atL
    rw [if_pos ((tree_iff t).2 ht), if_neg hp0, List.length_map]
    exact Nat.le_trans (List.length_filter_le _ _) ht.len
  · have := ht.right _ ((at_mem ht hp m).1 hm)
    exact this
  · by_cases e : m.path = []
    · exact .inl e
    · have := ht.path _ ((at_mem ht hp m).1 hm)
      unfold placeN at this
      rw [place_ne p e] at this
      exact .inr (path_tail this)
  · have hy := (at_mem ht hp m).1 hm
    have hpy := ht.path _ hy
    have hup : upL (placeN p m).path = place p (upL m.path) := up_place hne hpy
    have hw := place_within hp0 hpy
    have hnp : (placeN p m).path ≠ p := fun e => hne (place_inj (p := p) (by rw [place_nil]; exact e))
    obtain ⟨hu, _, _⟩ := within_up hw hp0 hnp
    rcases ht.dir _ hy with e | ⟨d, hd, e1, e2⟩
    · exact absurd e hu
    · refine ⟨{ d with path := upL m.path }, (at_mem ht hp _).2 ?_, rfl, e2⟩
      have : placeN p { d with path := upL m.path } = d := by
        unfold placeN
        cases d
        simp only at e1 ⊢
        rw [e1, hup]
      rw [this]
      exact hd

/- a value put in a place -/
theorem mem_out (t : List Nd) (p : List UInt8) (v : List Nd) (n : Nd) : n ∈ outL t p v ↔ (n ∈ t ∧ withinL n.path p = false) ∨ ∃ m ∈ v, placeN p m = n := by
  unfold outL
  rw [List.mem_append, List.mem_append, List.mem_filter, List.mem_filter, List.mem_map]
  simp only [Bool.and_eq_true, Bool.not_eq_true', decide_eq_true_eq, decide_eq_false_iff_not]
  constructor
  · rintro (⟨a, b, _⟩ | h | ⟨a, b, _⟩)
    · exact .inl ⟨a, b⟩
    · exact .inr h
    · exact .inl ⟨a, b⟩
  · rintro (⟨a, b⟩ | h)
    · by_cases c : ordL n.path p < 0
      · exact .inl ⟨a, b, c⟩
      · exact .inr (.inr ⟨a, b, c⟩)
    · exact .inr (.inl h)
theorem out_sorted {t : List Nd} (ht : Tree t) {p : List UInt8} (hp : pathL p = true) {v : List Nd} (hv : Sorted v) (hq : ∀ m ∈ v, pathL (place p m.path) = true) : Sorted (outL t p v) := by
  have hp0 := path_ne hp
  have hw : ∀ m ∈ v, withinL (placeN p m).path p = true := fun m hm => place_within hp0 (hq m hm)
  have hvs : Sorted (v.map (placeN p)) := by
    unfold Sorted
    rw [List.pairwise_map]
    refine List.Pairwise.imp (fun {a b} h => ?_) hv
    unfold lt at h ⊢
    have e := ord_place p a.path b.path
    show ordL (place p a.path) (place p b.path) < 0
    rw [e]
    exact h
  unfold outL Sorted
  rw [List.pairwise_append, List.pairwise_append]
  refine ⟨sorted_filter ht.sorted _, ⟨hvs, sorted_filter ht.sorted _, fun a ha b hb => ?_⟩, fun a ha b hb => ?_⟩
  · obtain ⟨m, hm, rfl⟩ := List.mem_map.1 ha
    rw [List.mem_filter] at hb
    simp only [Bool.and_eq_true, Bool.not_eq_true', decide_eq_false_iff_not] at hb
    exact ord_behind hp (ht.path b hb.1) hb.2.1 (hw m hm) hb.2.2
  · rw [List.mem_filter] at ha
    simp only [Bool.and_eq_true, Bool.not_eq_true', decide_eq_true_eq] at ha
    rcases List.mem_append.1 hb with hb | hb
    · obtain ⟨m, hm, rfl⟩ := List.mem_map.1 hb
      exact ord_ahead hp0 (hw m hm) ha.2.2
    · rw [List.mem_filter] at hb
      simp only [Bool.and_eq_true, Bool.not_eq_true', decide_eq_false_iff_not] at hb
      have h1 : ordL p b.path ≤ 0 := by
        have := ordL_swap p b.path
        omega
      exact ordL_lt ha.2.2 h1
/-- What makes a Put go through. -/
structure PutOk (t : List Nd) (p : List UInt8) (v : List Nd) : Prop where
  tree : Tree t
  val : Val v
  path : pathL p = true
  up : v ≠ [] → Dir t (upL p)
  all : ∀ m ∈ v, pathL (place p m.path) = true
  len : (outL t p v).length ≤ 1000
theorem put_cases (t : List Nd) (p : List UInt8) (v : List Nd) : (PutOk t p v ∧ putL t p v = (outL t p v, 0)) ∨ ∃ e, putL t p v = ([], e + 1) := by
  unfold putL
  by_cases h1 : treeB t = false ∨ rightV v = false
  · rw [if_pos h1]; exact .inr ⟨59, rfl⟩
  · rw [if_neg h1]
    have ht : Tree t := (tree_iff t).1 (by cases h : treeB t with | true => rfl | false => exact absurd (.inl h) h1)
    have hv : Val v := (val_iff v).1 (by cases h : rightV v with | true => rfl | false => exact absurd (.inr h) h1)
    by_cases h2 : pathL p = false
    · rw [if_pos h2]; exact .inr ⟨10, rfl⟩
    · rw [if_neg h2]
      have hp : pathL p = true := by simpa using h2
      by_cases h3 : v ≠ [] ∧ dirB t (parentL p) = false
      · rw [if_pos h3]; exact .inr ⟨61, rfl⟩
      · rw [if_neg h3]
        by_cases h4 : (v.all fun n => pathL (place p n.path)) = false
        · rw [if_pos h4]; exact .inr ⟨10, rfl⟩
        · rw [if_neg h4]
          by_cases h5 : 1000 < (outL t p v).length
          · rw [if_pos h5]; exact .inr ⟨31, rfl⟩
          · rw [if_neg h5]
            refine .inl ⟨⟨ht, hv, hp, fun hne => ?_, ?_, by omega⟩, rfl⟩
            · have e : dirB t (parentL p) = true := by
                cases h : dirB t (parentL p) with
                | true => rfl
                | false => exact absurd ⟨hne, h⟩ h3
              rw [show parentL p = upL p by unfold parentL; rw [if_pos hp]] at e
              exact (dir_iff ht.sorted _).1 e
            · have e : (v.all fun n => pathL (place p n.path)) = true := by simpa using h4
              exact fun m hm => List.all_eq_true.1 e m hm
theorem put_of {t : List Nd} {p : List UInt8} {v : List Nd} (h : PutOk t p v) : putL t p v = (outL t p v, 0) := by
  unfold putL
  rw [if_neg (by rw [(tree_iff t).2 h.tree, (val_iff v).2 h.val]; simp), if_neg (by rw [h.path]; simp), if_neg ?_, if_neg ?_, if_neg (by have := h.len; omega)]
  · rw [List.all_eq_true.2 h.all]; simp
  · rintro ⟨hne, hd⟩
    rw [show parentL p = upL p by unfold parentL; rw [if_pos h.path], (dir_iff h.tree.sorted _).2 (h.up hne)] at hd
    cases hd
theorem up_not_within {p : List UInt8} (hp : pathL p = true) (hu : upL p ≠ []) : withinL (upL p) p = false := by
  rw [Bool.eq_false_iff]
  intro h
  have h1 := ord_below (path_ne hp) h
  have h2 := up_lt hp
  have := ordL_swap (upL p) p
  omega
theorem out_tree {t : List Nd} {p : List UInt8} {v : List Nd} (h : PutOk t p v) : Tree (outL t p v) := by
  have hp0 := path_ne h.path
  have mo := mem_out t p v
  refine ⟨h.len, out_sorted h.tree h.path h.val.sorted h.all, fun n hn => ?_, fun n hn => ?_, fun n hn => ?_⟩
  · rcases (mo n).1 hn with ⟨a, _⟩ | ⟨m, hm, rfl⟩
    · exact h.tree.path n a
    · exact h.all m hm
  · rcases (mo n).1 hn with ⟨a, _⟩ | ⟨m, hm, rfl⟩
    · exact h.tree.right n a
    · exact h.val.right m hm
  · rcases (mo n).1 hn with ⟨a, b⟩ | ⟨m, hm, rfl⟩
    · rcases h.tree.dir n a with e | ⟨d, hd, e1, e2⟩
      · exact .inl e
      · by_cases hu : upL n.path = []
        · exact .inl hu
        · refine .inr ⟨d, (mo d).2 (.inl ⟨hd, ?_⟩), e1, e2⟩
          rw [Bool.eq_false_iff]
          intro hw
          rw [e1] at hw
          rw [within_of_up (h.tree.path n a) hp0 hu hw] at b
          cases b
    · by_cases hm0 : m.path = []
      · have hpm : (placeN p m).path = p := by unfold placeN; rw [hm0, place_nil]
        rw [hpm]
        rcases h.up (fun e => by rw [e] at hm; simp at hm) with e | ⟨d, hd, e1, e2⟩
        · exact .inl e
        · by_cases hu : upL p = []
          · exact .inl hu
          · refine .inr ⟨d, (mo d).2 (.inl ⟨hd, ?_⟩), e1, e2⟩
            rw [e1]
            exact up_not_within h.path hu
      · obtain ⟨d, hd, e1, e2⟩ := h.val.dir m hm hm0
        refine .inr ⟨placeN p d, (mo _).2 (.inr ⟨d, hd, rfl⟩), ?_, e2⟩
        show place p d.path = upL (place p m.path)
        rw [up_place hm0 (h.all m hm), e1]
theorem at_put {t : List Nd} {p : List UInt8} {v : List Nd} (h : PutOk t p v) : atL (outL t p v) p = v := by
  have ht := out_tree h
  have hp0 := path_ne h.path
  refine sorted_ext (at_sorted ht h.path) h.val.sorted fun n => ?_
  rw [at_mem ht h.path, mem_out]
  constructor
  · rintro (⟨a, b⟩ | ⟨m, hm, e⟩)
    · rw [place_within hp0 (h.tree.path _ a)] at b
      cases b
    · rw [← placeN_inj e]; exact hm
  · exact fun hn => .inr ⟨n, hn, rfl⟩
theorem at_ok {t : List Nd} (ht : Tree t) {p : List UInt8} (hp : pathL p = true) : atL t p ≠ [] → Dir t (upL p) := fun hne => by
  obtain ⟨m, hm, e⟩ := (at_val ht hp).head hne
  have h1 := ht.dir _ ((at_mem ht hp m).1 hm)
  have h2 : (placeN p m).path = p := by unfold placeN; rw [e, place_nil]
  rw [h2] at h1
  exact h1
/-- What is there, put again, or put back, is all as it was. -/
theorem put_back {t x : List Nd} (ht : Tree t) (hx : Tree x) {p : List UInt8} (hp : pathL p = true) (hsame : ∀ n, withinL n.path p = false → (n ∈ x ↔ n ∈ t)) : putL x p (atL t p) = (t, 0) := by
  have hp0 := path_ne hp
  have hv := at_val ht hp
  have hall : ∀ m ∈ atL t p, pathL (place p m.path) = true := fun m hm => ht.path _ ((at_mem ht hp m).1 hm)
  have hout : outL x p (atL t p) = t := by
    refine sorted_ext (out_sorted hx hp hv.sorted hall) ht.sorted fun n => ?_
    rw [mem_out]
    constructor
    · rintro (⟨a, b⟩ | ⟨m, hm, rfl⟩)
      · exact (hsame n b).1 a
      · exact (at_mem ht hp m).1 hm
    · intro hn
      cases hw : withinL n.path p with
      | false => exact .inl ⟨(hsame n hw).2 hn, rfl⟩
      | true =>
        obtain ⟨m, rfl⟩ := within_place hp0 hw
        exact .inr ⟨m, (at_mem ht hp m).2 hn, rfl⟩
  have hok : PutOk x p (atL t p) := ⟨hx, hv, hp, fun hne => by
    rcases at_ok ht hp hne with e | ⟨d, hd, e1, e2⟩
    · exact .inl e
    · by_cases hu : upL p = []
      · exact .inl hu
      · exact .inr ⟨d, (hsame d (by rw [e1]; exact up_not_within hp hu)).2 hd, e1, e2⟩, hall, by rw [hout]; exact ht.len⟩
  rw [put_of hok, hout]
theorem put_at {t : List Nd} (ht : Tree t) {p : List UInt8} (hp : pathL p = true) : putL t p (atL t p) = (t, 0) := put_back ht ht hp fun _ _ => Iff.rfl
theorem put_restore {t : List Nd} {p : List UInt8} {v : List Nd} (h : PutOk t p v) : putL (outL t p v) p (atL t p) = (t, 0) :=
  put_back h.tree (out_tree h) h.path fun n hn => by
    rw [mem_out]
    constructor
    · rintro (⟨a, _⟩ | ⟨m, hm, rfl⟩)
      · exact a
      · rw [place_within (path_ne h.path) (h.all m hm)] at hn
        cases hn
    · exact fun a => .inl ⟨a, hn⟩
end Go.Proofs.YtfkaackhikbbkaaGreatDoor.TP
end

section
/- Layer 6: how lists of nodes lie in memory. -/
namespace Go.Proofs.YtfkaackhikbbkaaGreatDoor
open Go.RowKit Go.Lib
namespace TM
open OM TP

def txt (l : List UInt8) : Value := .string ⟨l.toArray⟩
def ndCells (n : Nd) : List Value := [txt n.path, .int .i64 n.kind, txt n.data, .int .i64 n.mode]
def ndVal (n : Nd) : Value := .agg #[txt n.path, .int .i64 n.kind, txt n.data, .int .i64 n.mode]
def nodesC (ts : List Nd) : List Value := ts.flatMap ndCells
/-- One node lies there. -/
structure NodeAt (W : World) (g o : Nat) (n : Nd) : Prop where
  p : W.cell? ⟨g, o, none⟩ = some (txt n.path)
  k : W.cell? ⟨g, o + 1, none⟩ = some (.int .i64 n.kind)
  d : W.cell? ⟨g, o + 2, none⟩ = some (txt n.data)
  m : W.cell? ⟨g, o + 3, none⟩ = some (.int .i64 n.mode)
theorem NodeAt.below {W W' : World} {g o : Nat} {n : Nd} (h : NodeAt W g o n) (hg : g < W.heap.size) (hb : Below W.heap.size W W') : NodeAt W' g o n :=
  ⟨(hb.cell (p := ⟨g, o, none⟩) hg).trans h.p, (hb.cell (p := ⟨g, o + 1, none⟩) hg).trans h.k, (hb.cell (p := ⟨g, o + 2, none⟩) hg).trans h.d, (hb.cell (p := ⟨g, o + 3, none⟩) hg).trans h.m⟩
/-- A slice of nodes lies there. -/
def LayN (W : World) (ao : Option Addr) (ts : List Nd) : Prop :=
  0 < ts.length → ∃ g o, ao = some ⟨g, o, none⟩ ∧ g < W.heap.size ∧ ∀ (k : Nat) (n : Nd), ts[k]? = some n → NodeAt W g (o + k * 4) n
theorem LayN.below {W W' : World} {ao : Option Addr} {ts : List Nd} (h : LayN W ao ts) (hb : Below W.heap.size W W') : LayN W' ao ts := fun h0 => by
  obtain ⟨g, o, e, hlt, hc⟩ := h h0
  exact ⟨g, o, e, Nat.lt_of_lt_of_le hlt hb.size, fun k n hk => (hc k n hk).below hlt hb⟩
theorem LayN.nil (W : World) (ao : Option Addr) : LayN W ao [] := fun h => absurd h (by simp)
theorem nodes_len (ts : List Nd) : (nodesC ts).length = ts.length * 4 := by
  induction ts with
  | nil => rfl
  | cons n ts ih =>
    show (ndCells n ++ nodesC ts).length = _
    rw [List.length_append, ih, List.length_cons]
    show 4 + _ = _
    omega
theorem nodes_at : ∀ (ts : List Nd) (k : Nat) (n : Nd), ts[k]? = some n → (nodesC ts)[k * 4]? = some (txt n.path) ∧ (nodesC ts)[k * 4 + 1]? = some (.int .i64 n.kind) ∧ (nodesC ts)[k * 4 + 2]? = some (txt n.data) ∧ (nodesC ts)[k * 4 + 3]? = some (.int .i64 n.mode)
  | [], k, n, h => by simp at h
  | x :: ts, 0, n, h => by
    simp at h
    subst h
    exact ⟨rfl, rfl, rfl, rfl⟩
  | x :: ts, k + 1, n, h => by
    rw [List.getElem?_cons_succ] at h
    have ih := nodes_at ts k n h
    have e : ∀ j, (nodesC (x :: ts))[(k + 1) * 4 + j]? = (nodesC ts)[k * 4 + j]? := fun j => by
      show (ndCells x ++ nodesC ts)[_]? = _
      rw [List.getElem?_append_right (by show 4 ≤ _; omega)]
      congr 1
      show _ - 4 = _
      omega
    exact ⟨(e 0).trans ih.1, (e 1).trans ih.2.1, (e 2).trans ih.2.2.1, (e 3).trans ih.2.2.2⟩
theorem lay_own {w : World} {B : Nat} {v : Value} {ts : List Nd} (h : w.ownsRow B 25 4 v ts.length (nodesC ts)) : ∃ ao c, v = .slice ao ts.length c ∧ LayN w ao ts := by
  obtain ⟨ao, c, rfl, hx⟩ := owns_view h
  refine ⟨ao, c, rfl, fun h0 => ?_⟩
  obtain ⟨g, rfl, hg, _, hc⟩ := hx h0
  refine ⟨g, 0, rfl, hg, fun k n hk => ?_⟩
  have hkl := (List.getElem?_eq_some_iff.1 hk).1
  obtain ⟨a, b, c, d⟩ := nodes_at ts k n hk
  rw [Nat.zero_add]
  exact ⟨(hc _ (by omega)).trans a, (hc _ (by omega)).trans b, (hc _ (by omega)).trans c, (hc _ (by omega)).trans d⟩
theorem nodes_snoc (ts : List Nd) (n : Nd) : nodesC (ts ++ [n]) = nodesC ts ++ ndCells n := by
  unfold nodesC
  rw [List.flatMap_append, List.flatMap_singleton]
theorem txt_data (s : ByteArray) : txt s.data.toList = .string s := by
  unfold txt
  congr 1
theorem txt_inj {a b : List UInt8} (h : txt a = txt b) : a = b := by
  unfold txt at h
  injection h with h
  injection h with h
  simpa using h
end TM
end Go.Proofs.YtfkaackhikbbkaaGreatDoor
end

section
/- Layer 3's answers over lists of bytes: a number's bytes, what is read as a number, what counts; and the plain facts about them (no program is read here). -/
namespace Go.Proofs.YtfkaackhikbbkaaGreatDoor.CP
open Go

/-- The bytes of a number. -/
def nm (n : Nat) : List UInt8 := if h : n < 128 then [UInt8.ofNat n] else UInt8.ofNat (n % 128 + 128) :: nm (n / 128)
termination_by n
decreasing_by omega
def numS (n : Int) : List UInt8 := if n < 0 then [] else nm n.toNat
def flagS (b : Bool) : List UInt8 := if b then [1] else [0]
def textS (s : List UInt8) : List UInt8 := nm s.length ++ s
/-- The number that stands ahead, behind k bytes of value v: the value, how many bytes, the error. -/
def rd : Nat → Nat → List UInt8 → Nat × Nat × Nat
  | k, _, [] => (0, 0, if k = 9 then 31 else 30)
  | k, v, b :: r => if k = 9 then (0, 0, 31) else if b.toNat < 128 then (if b = 0 ∧ 0 < k then (0, 0, 31) else (v + b.toNat * 128 ^ k, k + 1, 0)) else rd (k + 1) (v + b.toNat % 128 * 128 ^ k) r
def cnt (l : List UInt8) (most least : Int) : Nat × Nat × Nat :=
  if (rd 0 0 l).2.2 ≠ 0 then (0, 0, (rd 0 0 l).2.2) else if most < ((rd 0 0 l).1 : Nat) then (0, 0, 32)
  else if ((l.length : Int) - ((rd 0 0 l).2.1 : Nat)) / max least 1 < ((rd 0 0 l).1 : Nat) then (0, 0, 30) else rd 0 0 l

theorem nm_lt {n : Nat} (h : n < 128) : nm n = [UInt8.ofNat n] := by rw [nm]; rw [dif_pos h]
theorem nm_ge {n : Nat} (h : 128 ≤ n) : nm n = UInt8.ofNat (n % 128 + 128) :: nm (n / 128) := by rw [nm]; rw [dif_neg (by omega)]
theorem byte_of {n : Nat} (h : n < 256) : (UInt8.ofNat n).toNat = n := by simp [UInt8.toNat_ofNat']; omega
theorem nm_ne (n : Nat) : nm n ≠ [] := by
  by_cases h : n < 128
  · rw [nm_lt h]; simp
  · rw [nm_ge (by omega)]; simp
theorem pow_step {k : Nat} (hk : k < 9) : 128 ^ (9 - k) = 128 ^ (9 - (k + 1)) * 128 := by
  rw [← Nat.pow_succ]
  congr 1
  omega
theorem lt_step {n k : Nat} (hk : k < 9) (h : n < 128 ^ (9 - k)) : n / 128 < 128 ^ (9 - (k + 1)) := by
  rw [pow_step hk] at h
  omega
theorem ge_room {n k : Nat} (hk : k < 9) (hn : 128 ≤ n) (h : n < 128 ^ (9 - k)) : k + 1 < 9 := by
  rcases Nat.lt_or_ge (k + 1) 9 with h1 | h1
  · exact h1
  · have e : 9 - k = 1 := by omega
    rw [e] at h
    omega
theorem sum_step (v n k : Nat) : v + n % 128 * 128 ^ k + n / 128 * 128 ^ (k + 1) = v + n * 128 ^ k := by
  have e := Nat.div_add_mod n 128
  have e2 : n / 128 * 128 ^ (k + 1) = 128 * (n / 128) * 128 ^ k := by
    rw [Nat.pow_succ, Nat.mul_comm (128 ^ k) 128, ← Nat.mul_assoc, Nat.mul_comm (n / 128) 128]
  rw [e2]
  generalize n / 128 = q at e
  generalize n % 128 = r at e
  generalize 128 ^ k = P
  rw [← e, Nat.add_mul]
  omega
theorem nm_length {n : Nat} : ∀ {k : Nat}, k < 9 → n < 128 ^ (9 - k) → (nm n).length + k ≤ 9 := by
  induction n using Nat.strongRecOn with
  | ind n ih =>
    intro k hk h
    by_cases hn : n < 128
    · rw [nm_lt hn]
      simp
      omega
    · rw [nm_ge (by omega)]
      have h1 := ge_room hk (by omega) h
      have := ih (n / 128) (by omega) h1 (lt_step hk h)
      rw [List.length_cons]
      omega
theorem rd_nm {n : Nat} : ∀ {k v : Nat} {r : List UInt8}, k < 9 → n < 128 ^ (9 - k) → (k = 0 ∨ 0 < n) → rd k v (nm n ++ r) = (v + n * 128 ^ k, k + (nm n).length, 0) := by
  induction n using Nat.strongRecOn with
  | ind n ih =>
    intro k v r hk h h0
    by_cases hn : n < 128
    · rw [nm_lt hn, List.singleton_append]
      have e := byte_of (show n < 256 by omega)
      have hz : ¬ (UInt8.ofNat n = 0 ∧ 0 < k) := by
        rintro ⟨hz, hk0⟩
        have := congrArg UInt8.toNat hz
        rw [e] at this
        change n = 0 at this
        omega
      unfold rd
      rw [if_neg (by omega), e, if_pos hn, if_neg hz]
      rfl
    · rw [nm_ge (by omega), List.cons_append]
      have e := byte_of (show n % 128 + 128 < 256 by omega)
      have h1 := ge_room hk (by omega) h
      rw [rd, if_neg (by omega), e, if_neg (by omega), ih (n / 128) (by omega) h1 (lt_step hk h) (.inr (by omega)), List.length_cons, show (n % 128 + 128) % 128 = n % 128 by omega, sum_step]
      simp
      omega
theorem rd_cut {n : Nat} : ∀ {k v c : Nat}, k < 9 → n < 128 ^ (9 - k) → c < (nm n).length → rd k v ((nm n).take c) = (0, 0, 30) := by
  induction n using Nat.strongRecOn with
  | ind n ih =>
    intro k v c hk h hc
    cases c with
    | zero =>
      rw [List.take_zero]
      unfold rd
      rw [if_neg (by omega)]
    | succ c =>
      by_cases hn : n < 128
      · rw [nm_lt hn] at hc
        simp at hc
      · rw [nm_ge (by omega)] at hc ⊢
        rw [List.take_succ_cons]
        have e := byte_of (show n % 128 + 128 < 256 by omega)
        have h1 := ge_room hk (by omega) h
        rw [rd, if_neg (by omega), e, if_neg (by omega)]
        exact ih (n / 128) (by omega) h1 (lt_step hk h) (by simpa using hc)
theorem rd_back : ∀ (l : List UInt8) {k v x w : Nat}, k < 9 → rd k v l = (x, w, 0) → ∃ n, x = v + n * 128 ^ k ∧ w = k + (nm n).length ∧ l.take (nm n).length = nm n ∧ n < 128 ^ (9 - k) ∧ (0 < k → 0 < n)
  | [], k, v, x, w, hk, h => by
    unfold rd at h
    rw [if_neg (by omega)] at h
    simp at h
  | b :: r, k, v, x, w, hk, h => by
    rw [rd, if_neg (by omega)] at h
    have hb := b.toNat_lt
    by_cases hlt : b.toNat < 128
    · rw [if_pos hlt] at h
      by_cases hz : b = 0 ∧ 0 < k
      · rw [if_pos hz] at h
        simp at h
      · rw [if_neg hz] at h
        simp only [Prod.mk.injEq, and_true] at h
        obtain ⟨rfl, rfl⟩ := h
        have e : nm b.toNat = [b] := by rw [nm_lt hlt]; simp
        refine ⟨b.toNat, rfl, by rw [e]; rfl, by rw [e]; rfl, ?_, fun hk0 => ?_⟩
        · rw [pow_step hk]
          have := Nat.pow_pos (n := 9 - (k + 1)) (show 0 < 128 by decide)
          omega
        · rcases Nat.eq_zero_or_pos b.toNat with h0 | h0
          · exact absurd ⟨UInt8.toNat_inj.1 h0, hk0⟩ hz
          · exact h0
    · rw [if_neg hlt] at h
      have h9 : k + 1 < 9 := by
        rcases Nat.lt_or_ge (k + 1) 9 with h1 | h1
        · exact h1
        · have e : k + 1 = 9 := by omega
          rw [e] at h
          cases r <;> simp [rd] at h
      obtain ⟨n, hx, hw, ht, hn, h0⟩ := rd_back r h9 h
      have hn0 := h0 (by omega)
      have e : nm (b.toNat % 128 + n * 128) = b :: nm n := by
        rw [nm_ge (by omega), show (b.toNat % 128 + n * 128) % 128 + 128 = b.toNat by omega, show (b.toNat % 128 + n * 128) / 128 = n by omega]
        simp
      refine ⟨b.toNat % 128 + n * 128, ?_, ?_, ?_, ?_, fun _ => by omega⟩
      · rw [hx, ← sum_step v (b.toNat % 128 + n * 128) k, show (b.toNat % 128 + n * 128) % 128 = b.toNat % 128 by omega, show (b.toNat % 128 + n * 128) / 128 = n by omega]
      · rw [hw, e, List.length_cons]
        omega
      · rw [e, List.length_cons, List.take_succ_cons, ht]
      · rw [pow_step hk]
        omega
/-- A number that is read is written as the bytes that were read. -/
theorem rd_one {l : List UInt8} {x w : Nat} (h : rd 0 0 l = (x, w, 0)) : l.take w = nm x ∧ w = (nm x).length ∧ w ≤ l.length ∧ x < 128 ^ 9 := by
  obtain ⟨n, hx, hw, ht, hn, _⟩ := rd_back l (by decide) h
  rw [Nat.zero_add, Nat.pow_zero, Nat.mul_one] at hx
  rw [Nat.zero_add] at hw
  subst hx
  subst hw
  refine ⟨ht, rfl, ?_, hn⟩
  have := congrArg List.length ht
  rw [List.length_take] at this
  omega
theorem rd_err : ∀ (l : List UInt8) (k v : Nat), (rd k v l).2.2 = 0 ∨ rd k v l = (0, 0, 30) ∨ rd k v l = (0, 0, 31)
  | [], k, v => by
    unfold rd
    by_cases h : k = 9
    · rw [if_pos h]; exact .inr (.inr rfl)
    · rw [if_neg h]; exact .inr (.inl rfl)
  | b :: r, k, v => by
    unfold rd
    by_cases h : k = 9
    · rw [if_pos h]; exact .inr (.inr rfl)
    · rw [if_neg h]
      by_cases hlt : b.toNat < 128
      · rw [if_pos hlt]
        by_cases hz : b = 0 ∧ 0 < k
        · rw [if_pos hz]; exact .inr (.inr rfl)
        · rw [if_neg hz]; exact .inl rfl
      · rw [if_neg hlt]
        exact rd_err r _ _
/-- Three outcomes of what counts. -/
theorem cnt_cases (l : List UInt8) (most least : Int) : (cnt l most least = rd 0 0 l ∧ (rd 0 0 l).2.2 = 0 ∧ ((rd 0 0 l).1 : Int) ≤ most ∧ ((rd 0 0 l).1 : Int) ≤ ((l.length : Int) - ((rd 0 0 l).2.1 : Nat)) / max least 1) ∨ ∃ e, cnt l most least = (0, 0, e) ∧ (e = 30 ∨ e = 31 ∨ e = 32) := by
  unfold cnt
  by_cases h : (rd 0 0 l).2.2 = 0
  · rw [if_neg (by simp [h])]
    by_cases h1 : most < ((rd 0 0 l).1 : Nat)
    · rw [if_pos h1]; exact .inr ⟨32, rfl, by simp⟩
    · rw [if_neg h1]
      by_cases h2 : ((l.length : Int) - ((rd 0 0 l).2.1 : Nat)) / max least 1 < ((rd 0 0 l).1 : Nat)
      · rw [if_pos h2]; exact .inr ⟨30, rfl, by simp⟩
      · rw [if_neg h2]; exact .inl ⟨rfl, h, by omega, by omega⟩
  · rw [if_pos h]
    rcases rd_err l 0 0 with h0 | h0 | h0
    · exact absurd h0 h
    · rw [h0]; exact .inr ⟨30, rfl, by simp⟩
    · rw [h0]; exact .inr ⟨31, rfl, by simp⟩
end Go.Proofs.YtfkaackhikbbkaaGreatDoor.CP
end

section
/- Layer 4's check sum and weak sum over lists of bytes: what is turned in four bytes turns the check sum; rolled by one byte the weak sum is the next window's (no program is read here). -/
namespace Go.Proofs.YtfkaackhikbbkaaGreatDoor.HP
open Go

/- the check sum -/
/-- One bit's step. -/
def cst (v : Nat) : Nat := if v % 2 = 1 then v / 2 ^^^ 3988292384 else v / 2
def csts : Nat → Nat → Nat
  | 0, v => v
  | n + 1, v => csts n (cst v)
/-- One byte. -/
def crcB (v : Nat) (b : UInt8) : Nat := csts 8 (v ^^^ b.toNat)
def crcR (v : Nat) (l : List UInt8) : Nat := l.foldl crcB v
def crcL (l : List UInt8) : Nat := crcR 4294967295 l ^^^ 4294967295

theorem xor_cancel {a b c : Nat} (h : a ^^^ c = b ^^^ c) : a = b := by
  have e : (a ^^^ c) ^^^ c = (b ^^^ c) ^^^ c := by rw [h]
  rwa [Nat.xor_assoc, Nat.xor_assoc, Nat.xor_self, Nat.xor_zero, Nat.xor_zero] at e
theorem xor_cancel_left {a b c : Nat} (h : c ^^^ a = c ^^^ b) : a = b := by
  rw [Nat.xor_comm c a, Nat.xor_comm c b] at h
  exact xor_cancel h
theorem cst_lt {v : Nat} (h : v < 2 ^ 32) : cst v < 2 ^ 32 := by
  unfold cst
  split
  · exact Nat.xor_lt_two_pow (by omega) (by decide)
  · omega
theorem csts_lt : ∀ (n : Nat) {v : Nat}, v < 2 ^ 32 → csts n v < 2 ^ 32
  | 0, _, h => h
  | n + 1, _, h => csts_lt n (cst_lt h)
theorem top_set {a : Nat} (h : a < 2 ^ 31) : 2 ^ 31 ≤ a ^^^ 3988292384 := by
  apply Nat.ge_two_pow_of_testBit
  rw [Nat.testBit_xor, Nat.testBit_lt_two_pow h]
  decide
theorem cst_inj {u v : Nat} (hu : u < 2 ^ 32) (hv : v < 2 ^ 32) (h : cst u = cst v) : u = v := by
  unfold cst at h
  by_cases h1 : u % 2 = 1
  · rw [if_pos h1] at h
    have t1 := top_set (a := u / 2) (by omega)
    by_cases h2 : v % 2 = 1
    · rw [if_pos h2] at h
      have := xor_cancel h
      omega
    · rw [if_neg h2] at h
      omega
  · rw [if_neg h1] at h
    by_cases h2 : v % 2 = 1
    · rw [if_pos h2] at h
      have t2 := top_set (a := v / 2) (by omega)
      omega
    · rw [if_neg h2] at h
      omega
theorem csts_inj : ∀ (n : Nat) {u v : Nat}, u < 2 ^ 32 → v < 2 ^ 32 → csts n u = csts n v → u = v
  | 0, _, _, _, _, h => h
  | n + 1, _, _, hu, hv, h => cst_inj hu hv (csts_inj n (cst_lt hu) (cst_lt hv) h)
theorem par_xor (a b : Nat) : (a ^^^ b) % 2 = (a % 2) ^^^ (b % 2) := Nat.xor_mod_two_pow (n := 1)
theorem cst_xor (u v : Nat) : cst (u ^^^ v) = cst u ^^^ cst v := by
  unfold cst
  rw [par_xor, Nat.xor_div_two]
  have h1 : u % 2 = 0 ∨ u % 2 = 1 := by omega
  have h2 : v % 2 = 0 ∨ v % 2 = 1 := by omega
  rcases h1 with h1 | h1 <;> rcases h2 with h2 | h2 <;> rw [h1, h2]
  · simp
  · simp only [Nat.zero_xor, if_true, Nat.zero_ne_one, if_false, Nat.xor_assoc]
  · simp only [Nat.xor_zero, if_true, Nat.zero_ne_one, if_false]
    rw [Nat.xor_assoc, Nat.xor_comm (v / 2), ← Nat.xor_assoc]
  · simp only [Nat.xor_self, if_true, Nat.zero_ne_one, if_false]
    have e : (u / 2 ^^^ 3988292384) ^^^ (v / 2 ^^^ 3988292384) = (u / 2 ^^^ v / 2) ^^^ (3988292384 ^^^ 3988292384) := by
      rw [Nat.xor_assoc, ← Nat.xor_assoc 3988292384, Nat.xor_comm 3988292384 (v / 2), Nat.xor_assoc (v / 2), ← Nat.xor_assoc]
    rw [e, Nat.xor_self, Nat.xor_zero]
theorem csts_xor : ∀ (n : Nat) (u v : Nat), csts n (u ^^^ v) = csts n u ^^^ csts n v
  | 0, _, _ => rfl
  | n + 1, u, v => by
    show csts n (cst (u ^^^ v)) = csts n (cst u) ^^^ csts n (cst v)
    rw [cst_xor, csts_xor n]
theorem cst_double (x : Nat) : cst (2 * x) = x := by
  unfold cst
  rw [if_neg (by omega)]
  omega
theorem csts_shift : ∀ (n x : Nat), csts n (x * 2 ^ n) = x
  | 0, x => by simp [csts]
  | n + 1, x => by
    show csts n (cst (x * 2 ^ (n + 1))) = x
    have e : x * 2 ^ (n + 1) = 2 * (x * 2 ^ n) := by rw [Nat.pow_succ, Nat.mul_comm (2 ^ n) 2, ← Nat.mul_assoc, Nat.mul_comm x 2, Nat.mul_assoc]
    rw [e, cst_double]
    exact csts_shift n x
theorem csts_add : ∀ (m n v : Nat), csts n (csts m v) = csts (m + n) v
  | 0, n, v => by rw [Nat.zero_add]; rfl
  | m + 1, n, v => by
    show csts n (csts m (cst v)) = csts (m + 1 + n) v
    rw [csts_add m n, show m + 1 + n = m + n + 1 by omega]
    rfl
/-- Four bytes behind one another, as one word. -/
def word (a b c d : UInt8) : Nat := a.toNat ^^^ (b.toNat * 2 ^ 8) ^^^ (c.toNat * 2 ^ 16) ^^^ (d.toNat * 2 ^ 24)
theorem feed (n x : Nat) (b : UInt8) : csts 8 (csts n x ^^^ b.toNat) = csts (n + 8) (x ^^^ (b.toNat * 2 ^ n)) := by
  rw [← csts_add n 8, csts_xor n, csts_shift]
theorem crc_four (v : Nat) (a b c d : UInt8) : crcR v [a, b, c, d] = csts 32 (v ^^^ word a b c d) := by
  show crcB (crcB (crcB (crcB v a) b) c) d = _
  unfold crcB word
  rw [feed 8 (v ^^^ a.toNat) b, feed (8 + 8) _ c, feed (8 + 8 + 8) _ d]
  simp only [Nat.xor_assoc]
theorem byte_shift_lt (b : UInt8) {n : Nat} (h : n ≤ 24) : b.toNat * 2 ^ n < 2 ^ 32 := by
  have h1 : b.toNat * 2 ^ n < 2 ^ 8 * 2 ^ n := Nat.mul_lt_mul_of_pos_right b.toNat_lt (Nat.pow_pos (by decide))
  rw [← Nat.pow_add] at h1
  exact Nat.lt_of_lt_of_le h1 (Nat.pow_le_pow_right (by decide) (by omega))
theorem word_lt (a b c d : UInt8) : word a b c d < 2 ^ 32 := by
  have h := byte_shift_lt a (n := 0) (by decide)
  rw [Nat.pow_zero, Nat.mul_one] at h
  exact Nat.xor_lt_two_pow (Nat.xor_lt_two_pow (Nat.xor_lt_two_pow h (byte_shift_lt b (by decide))) (byte_shift_lt c (by decide))) (byte_shift_lt d (by decide))
theorem word_eq {a b c d e f g h : UInt8} (hw : word a b c d = word e f g h) : a = e ∧ b = f ∧ c = g ∧ d = h := by
  have la := a.toNat_lt
  have lb := b.toNat_lt
  have lc := c.toNat_lt
  have ld := d.toNat_lt
  have le := e.toNat_lt
  have lf := f.toNat_lt
  have lg := g.toNat_lt
  have lh := h.toNat_lt
  have low : ∀ (p q r s : UInt8), word p q r s % 2 ^ 8 = p.toNat := fun p q r s => by
    have := p.toNat_lt
    unfold word
    rw [Nat.xor_mod_two_pow, Nat.xor_mod_two_pow, Nat.xor_mod_two_pow]
    rw [show q.toNat * 2 ^ 8 % 2 ^ 8 = 0 by omega, show r.toNat * 2 ^ 16 % 2 ^ 8 = 0 by omega, show s.toNat * 2 ^ 24 % 2 ^ 8 = 0 by omega, Nat.xor_zero, Nat.xor_zero, Nat.xor_zero]
    omega
  have next : ∀ (p q r s : UInt8), word p q r s / 2 ^ 8 % 2 ^ 8 = q.toNat := fun p q r s => by
    have := p.toNat_lt
    have := q.toNat_lt
    unfold word
    rw [Nat.xor_div_two_pow, Nat.xor_div_two_pow, Nat.xor_div_two_pow, Nat.xor_mod_two_pow, Nat.xor_mod_two_pow, Nat.xor_mod_two_pow]
    rw [show p.toNat / 2 ^ 8 % 2 ^ 8 = 0 by omega, show r.toNat * 2 ^ 16 / 2 ^ 8 % 2 ^ 8 = 0 by omega, show s.toNat * 2 ^ 24 / 2 ^ 8 % 2 ^ 8 = 0 by omega, Nat.xor_zero, Nat.xor_zero, Nat.zero_xor]
    omega
  have third : ∀ (p q r s : UInt8), word p q r s / 2 ^ 16 % 2 ^ 8 = r.toNat := fun p q r s => by
    have := p.toNat_lt
    have := q.toNat_lt
    have := r.toNat_lt
    unfold word
    rw [Nat.xor_div_two_pow, Nat.xor_div_two_pow, Nat.xor_div_two_pow, Nat.xor_mod_two_pow, Nat.xor_mod_two_pow, Nat.xor_mod_two_pow]
    rw [show p.toNat / 2 ^ 16 % 2 ^ 8 = 0 by omega, show q.toNat * 2 ^ 8 / 2 ^ 16 % 2 ^ 8 = 0 by omega, show s.toNat * 2 ^ 24 / 2 ^ 16 % 2 ^ 8 = 0 by omega, Nat.xor_zero, Nat.zero_xor, Nat.zero_xor]
    omega
  have top : ∀ (p q r s : UInt8), word p q r s / 2 ^ 24 % 2 ^ 8 = s.toNat := fun p q r s => by
    have := p.toNat_lt
    have := q.toNat_lt
    have := r.toNat_lt
    have := s.toNat_lt
    unfold word
    rw [Nat.xor_div_two_pow, Nat.xor_div_two_pow, Nat.xor_div_two_pow, Nat.xor_mod_two_pow, Nat.xor_mod_two_pow, Nat.xor_mod_two_pow]
    rw [show p.toNat / 2 ^ 24 % 2 ^ 8 = 0 by omega, show q.toNat * 2 ^ 8 / 2 ^ 24 % 2 ^ 8 = 0 by omega, show r.toNat * 2 ^ 16 / 2 ^ 24 % 2 ^ 8 = 0 by omega, Nat.zero_xor, Nat.zero_xor, Nat.zero_xor]
    omega
  refine ⟨UInt8.toNat_inj.1 ?_, UInt8.toNat_inj.1 ?_, UInt8.toNat_inj.1 ?_, UInt8.toNat_inj.1 ?_⟩
  · rw [← low a b c d, hw, low]
  · rw [← next a b c d, hw, next]
  · rw [← third a b c d, hw, third]
  · rw [← top a b c d, hw, top]
theorem crcB_lt {v : Nat} (b : UInt8) (h : v < 2 ^ 32) : crcB v b < 2 ^ 32 := by
  have hb := byte_shift_lt b (n := 0) (by decide)
  rw [Nat.pow_zero, Nat.mul_one] at hb
  exact csts_lt 8 (Nat.xor_lt_two_pow h hb)
theorem crcR_lt : ∀ (l : List UInt8) {v : Nat}, v < 2 ^ 32 → crcR v l < 2 ^ 32
  | [], _, h => h
  | b :: l, _, h => crcR_lt l (crcB_lt b h)
theorem crcR_app (v : Nat) (a b : List UInt8) : crcR v (a ++ b) = crcR (crcR v a) b := by unfold crcR; rw [List.foldl_append]
/-- What stands behind doesn't bring two states together. -/
theorem crcR_inj : ∀ (l : List UInt8) {u v : Nat}, u < 2 ^ 32 → v < 2 ^ 32 → crcR u l = crcR v l → u = v
  | [], _, _, _, _, h => h
  | b :: l, u, v, hu, hv, h => by
    have h1 := crcR_inj l (crcB_lt b hu) (crcB_lt b hv) h
    have hb := byte_shift_lt b (n := 0) (by decide)
    rw [Nat.pow_zero, Nat.mul_one] at hb
    exact xor_cancel (csts_inj 8 (Nat.xor_lt_two_pow hu hb) (Nat.xor_lt_two_pow hv hb) h1)
/-- Four bytes turned turn the check sum. -/
theorem crc_turned {p q : List UInt8} {a b c d e f g h : UInt8} (hc : crcL (p ++ [a, b, c, d] ++ q) = crcL (p ++ [e, f, g, h] ++ q)) : a = e ∧ b = f ∧ c = g ∧ d = h := by
  unfold crcL at hc
  have h1 := xor_cancel hc
  rw [crcR_app, crcR_app, crcR_app, crcR_app] at h1
  have hp := crcR_lt p (v := 4294967295) (by decide)
  have h2 := crcR_inj q (crcR_lt _ hp) (crcR_lt _ hp) h1
  rw [crc_four, crc_four] at h2
  exact word_eq (xor_cancel_left (csts_inj 32 (Nat.xor_lt_two_pow hp (word_lt ..)) (Nat.xor_lt_two_pow hp (word_lt ..)) h2))

/- the weak sum -/
def sumA : List UInt8 → Nat
  | [] => 0
  | x :: r => x.toNat + sumA r
def sumB : List UInt8 → Nat
  | [] => 0
  | x :: r => (r.length + 1) * x.toNat + sumB r
def weakL (l : List UInt8) : Nat := sumA l % 65536 + 65536 * (sumB l % 65536)
/-- One byte on, of any numbers. -/
def rollL (w : Nat) (n : Int) (out inn : UInt8) : Int :=
  (((w % 65536 : Nat) : Int) - out.toNat + inn.toNat) % 65536 + 65536 * ((((w / 65536 : Nat) : Int) - n * out.toNat + (((w % 65536 : Nat) : Int) - out.toNat + inn.toNat) % 65536) % 65536)
theorem sumA_snoc (l : List UInt8) (y : UInt8) : sumA (l ++ [y]) = sumA l + y.toNat := by
  induction l with
  | nil => simp [sumA]
  | cons x r ih => rw [List.cons_append, sumA, sumA, ih]; omega
theorem sumB_snoc (l : List UInt8) (y : UInt8) : sumB (l ++ [y]) = sumB l + sumA l + y.toNat := by
  induction l with
  | nil => simp [sumB, sumA]
  | cons x r ih =>
    rw [List.cons_append, sumB, sumB, sumA, ih, List.length_append, List.length_singleton, Nat.add_mul (r.length + 1) 1, Nat.one_mul]
    omega
theorem weak_low (l : List UInt8) : weakL l % 65536 = sumA l % 65536 := by unfold weakL; omega
theorem weak_high (l : List UInt8) : weakL l / 65536 = sumB l % 65536 := by unfold weakL; omega
theorem weak_lt (l : List UInt8) : weakL l < 2 ^ 32 := by unfold weakL; omega
/-- Rolled by one byte: the next window's. -/
theorem weak_rolls (x y : UInt8) (r : List UInt8) : rollL (weakL (x :: r)) ((r.length + 1 : Nat) : Int) x y = (weakL (r ++ [y]) : Nat) := by
  unfold rollL
  rw [weak_low, weak_high]
  have ea : sumA (x :: r) = x.toNat + sumA r := rfl
  have eb : sumB (x :: r) = (r.length + 1) * x.toNat + sumB r := rfl
  have ea2 := sumA_snoc r y
  have eb2 := sumB_snoc r y
  have e1 : (((sumA (x :: r) % 65536 : Nat) : Int) - x.toNat + y.toNat) % 65536 = ((sumA (r ++ [y]) % 65536 : Nat) : Int) := by
    rw [ea, ea2]
    omega
  rw [e1]
  have em : (((r.length + 1 : Nat) : Int) * (x.toNat : Int)) = (((r.length + 1) * x.toNat : Nat) : Int) := by rw [Int.natCast_mul]
  rw [em]
  generalize (r.length + 1) * x.toNat = m at eb
  unfold weakL
  rw [eb2, eb, ea2]
  omega
end Go.Proofs.YtfkaackhikbbkaaGreatDoor.HP
end

section
/- Layer 4's fingerprint over lists: the first values and constants out of primes' roots, the rounds, the whole; and what it is of "abc" (no program is read here). -/
namespace Go.Proofs.YtfkaackhikbbkaaGreatDoor.HS
open Go

/- the first values and the constants -/
def isFresh (l : List Nat) (p : Nat) : Bool := l.all fun q => p % q != 0
/-- The first n primes, from p on, in at most the given steps. -/
def primesGo : Nat → Nat → Nat → List Nat → List Nat
  | 0, _, _, l => l
  | fuel + 1, n, p, l => if n ≤ l.length then l else primesGo fuel n (p + 1) (if isFresh l p = true then l ++ [p] else l)
def primesN (n : Nat) : List Nat := primesGo 1000 n 2 []
def aboveN (x p k : Nat) : Bool := decide (p * 2 ^ (32 * k) < x ^ k)
def bisect : Nat → Nat → Nat → Nat → Nat → Nat
  | 0, _, _, low, _ => low
  | fuel + 1, p, k, low, high => if high - low ≤ 1 then low else if aboveN ((low + high) / 2) p k = true then bisect fuel p k low ((low + high) / 2) else bisect fuel p k ((low + high) / 2) high
def fracN (p k : Nat) : Nat := bisect 64 p k 0 (32 * 4294967296) % 4294967296
def firstN : List Nat := (primesN 8).map fun p => fracN p 2
def roundN : List Nat := (primesN 64).map fun p => fracN p 3
theorem first_is : firstN = [0x6a09e667, 0xbb67ae85, 0x3c6ef372, 0xa54ff53a, 0x510e527f, 0x9b05688c, 0x1f83d9ab, 0x5be0cd19] := by decide +kernel
def roundK : List Nat := [0x428a2f98, 0x71374491, 0xb5c0fbcf, 0xe9b5dba5, 0x3956c25b, 0x59f111f1, 0x923f82a4, 0xab1c5ed5,
  0xd807aa98, 0x12835b01, 0x243185be, 0x550c7dc3, 0x72be5d74, 0x80deb1fe, 0x9bdc06a7, 0xc19bf174,
  0xe49b69c1, 0xefbe4786, 0x0fc19dc6, 0x240ca1cc, 0x2de92c6f, 0x4a7484aa, 0x5cb0a9dc, 0x76f988da,
  0x983e5152, 0xa831c66d, 0xb00327c8, 0xbf597fc7, 0xc6e00bf3, 0xd5a79147, 0x06ca6351, 0x14292967,
  0x27b70a85, 0x2e1b2138, 0x4d2c6dfc, 0x53380d13, 0x650a7354, 0x766a0abb, 0x81c2c92e, 0x92722c85,
  0xa2bfe8a1, 0xa81a664b, 0xc24b8b70, 0xc76c51a3, 0xd192e819, 0xd6990624, 0xf40e3585, 0x106aa070,
  0x19a4c116, 0x1e376c08, 0x2748774c, 0x34b0bcb5, 0x391c0cb3, 0x4ed8aa4a, 0x5b9cca4f, 0x682e6ff3,
  0x748f82ee, 0x78a5636f, 0x84c87814, 0x8cc70208, 0x90befffa, 0xa4506ceb, 0xbef9a3f7, 0xc67178f2]
theorem round_is : roundN = roundK := by decide +kernel

/- the rounds -/
def M32 : Nat := 4294967296
def rotr (x n : Nat) : Nat := (x / 2 ^ n) ||| (x * 2 ^ (32 - n) % 4294967296)
def ls0 (x : Nat) : Nat := rotr x 7 ^^^ rotr x 18 ^^^ (x / 8)
def ls1 (y : Nat) : Nat := rotr y 17 ^^^ rotr y 19 ^^^ (y / 1024)
def bs1 (e : Nat) : Nat := rotr e 6 ^^^ rotr e 11 ^^^ rotr e 25
def bs0 (a : Nat) : Nat := rotr a 2 ^^^ rotr a 13 ^^^ rotr a 22
def chN (e f g : Nat) : Nat := (e &&& f) ^^^ ((4294967295 - e) &&& g)
def majN (a b c : Nat) : Nat := (a &&& b) ^^^ (a &&& c) ^^^ (b &&& c)
/-- Sixteen words drawn out to more, one at a time. -/
def schedGo : Nat → List Nat → List Nat
  | 0, w => w
  | n + 1, w => schedGo n (w ++ [(w.getD (w.length - 16) 0 + w.getD (w.length - 7) 0 + ls0 (w.getD (w.length - 15) 0) + ls1 (w.getD (w.length - 2) 0)) % 4294967296])
abbrev St := Nat × Nat × Nat × Nat × Nat × Nat × Nat × Nat
def roundStep (v : St) (k w : Nat) : St :=
  match v with
  | (a, b, c, d, e, f, g, h) =>
    let t := (h + bs1 e + chN e f g + k + w) % 4294967296
    let u := (bs0 a + majN a b c) % 4294967296
    ((t + u) % 4294967296, a, b, c, (d + t) % 4294967296, e, f, g)
def rounds : St → List Nat → List Nat → St
  | v, k :: ks, w :: ws => rounds (roundStep v k w) ks ws
  | v, _, _ => v
def addSt (v h : St) : St :=
  match v, h with
  | (a, b, c, d, e, f, g, i), (a', b', c', d', e', f', g', i') =>
    ((a + a') % 4294967296, (b + b') % 4294967296, (c + c') % 4294967296, (d + d') % 4294967296, (e + e') % 4294967296, (f + f') % 4294967296, (g + g') % 4294967296, (i + i') % 4294967296)
def wordBE (l : List UInt8) (i : Nat) : Nat := (l.getD (4 * i) 0).toNat * 16777216 + (l.getD (4 * i + 1) 0).toNat * 65536 + (l.getD (4 * i + 2) 0).toNat * 256 + (l.getD (4 * i + 3) 0).toNat
def words16 (l : List UInt8) : List Nat := (List.range 16).map (wordBE l)
def blockN (h : St) (l : List UInt8) : St := addSt (rounds h roundK (schedGo 48 (words16 l))) h
def blocks : Nat → St → List UInt8 → St
  | 0, h, _ => h
  | n + 1, h, l => blocks n (blockN h (l.take 64)) (l.drop 64)
def be8 (n : Nat) : List UInt8 := (List.range 8).map fun i => UInt8.ofNat (n / 2 ^ (8 * (7 - i)) % 256)
def be4 (n : Nat) : List UInt8 := (List.range 4).map fun i => UInt8.ofNat (n / 2 ^ (8 * (3 - i)) % 256)
/-- How many noughts stand behind the byte 80. -/
def noughts (n : Nat) : Nat := (119 - n % 64) % 64
def padL (s : List UInt8) : List UInt8 := s ++ [128] ++ List.replicate (noughts s.length) 0 ++ be8 (s.length * 8)
def start : St := (0x6a09e667, 0xbb67ae85, 0x3c6ef372, 0xa54ff53a, 0x510e527f, 0x9b05688c, 0x1f83d9ab, 0x5be0cd19)
def outL (v : St) : List UInt8 := match v with
  | (a, b, c, d, e, f, g, h) => be4 a ++ be4 b ++ be4 c ++ be4 d ++ be4 e ++ be4 f ++ be4 g ++ be4 h
def shaL (s : List UInt8) : List UInt8 := outL (blocks ((padL s).length / 64) start (padL s))
theorem sha_abc : shaL [97, 98, 99] = [0xba, 0x78, 0x16, 0xbf, 0x8f, 0x01, 0xcf, 0xea, 0x41, 0x41, 0x40, 0xde, 0x5d, 0xae, 0x22, 0x23, 0xb0, 0x03, 0x61, 0xa3, 0x96, 0x17, 0x7a, 0x9c, 0xb4, 0x10, 0xff, 0x61, 0xf2, 0x00, 0x15, 0xad] := by decide +kernel
theorem padL_len (s : List UInt8) : (padL s).length % 64 = 0 := by
  unfold padL noughts be8
  simp only [List.length_append, List.length_replicate, List.length_map, List.length_range, List.length_singleton]
  omega
end Go.Proofs.YtfkaackhikbbkaaGreatDoor.HS
end

section
/- Layer 5's records over lists of bytes (no program is read here). -/
namespace Go.Proofs.YtfkaackhikbbkaaGreatDoor.RP
open Go HP HS

/-- The number in four bytes at a place, the highest first. -/
def num4 (l : List UInt8) (k : Nat) : Nat := (l.getD k 0).toNat * 16777216 + (l.getD (k + 1) 0).toNat * 65536 + (l.getD (k + 2) 0).toNat * 256 + (l.getD (k + 3) 0).toNat
def MaxP : Nat := 1048576
/-- A record. -/
def packL (p : List UInt8) : List UInt8 := be4 p.length ++ be4 (crcL (be4 p.length ++ p)) ++ p
/-- The first record: what is wrong, its payload, what is behind it. -/
def nextL (s : List UInt8) : Nat × List UInt8 × List UInt8 :=
  if s.length < 8 then (50, [], [])
  else if MaxP < num4 s 0 then (32, [], [])
  else if s.length < num4 s 0 + 8 then (50, [], [])
  else if num4 s 4 = crcL (s.take 4 ++ (s.drop 8).take (num4 s 0)) then (0, (s.drop 8).take (num4 s 0), s.drop (8 + num4 s 0))
  else (51, [], [])
/-- Just one. -/
def oneL (s : List UInt8) : Nat × List UInt8 :=
  match nextL s with
  | (0, p, []) => (0, p)
  | (0, _, _ :: _) => (32, [])
  | (e + 1, _, _) => (e + 1, [])
/-- Up to the end: the payloads, where they end, what is wrong. -/
def allGo : Nat → List UInt8 → List (List UInt8) × Nat × Nat
  | 0, _ => ([], 0, 0)
  | f + 1, s =>
    if s = [] then ([], 0, 0)
    else match nextL s with
      | (0, p, r) => (p :: (allGo f r).1, s.length - r.length + (allGo f r).2.1, (allGo f r).2.2)
      | (e + 1, _, _) => ([], 0, e + 1)
def allL (s : List UInt8) : List (List UInt8) × Nat × Nat := allGo s.length s
def joined (l : List (List UInt8)) : List UInt8 := l.flatMap packL

theorem be4_len (n : Nat) : (be4 n).length = 4 := by simp [be4]
theorem be4_is (n : Nat) : be4 n = [UInt8.ofNat (n / 2 ^ 24 % 256), UInt8.ofNat (n / 2 ^ 16 % 256), UInt8.ofNat (n / 2 ^ 8 % 256), UInt8.ofNat (n / 2 ^ 0 % 256)] := rfl
theorem of_byte (n : Nat) (h : n < 256) : (UInt8.ofNat n).toNat = n := by rw [UInt8.toNat_ofNat']; exact Nat.mod_eq_of_lt h
theorem crcL_lt (l : List UInt8) : crcL l < 4294967296 := by
  unfold crcL
  exact Nat.xor_lt_two_pow (n := 32) (crcR_lt l (by decide)) (by decide)
theorem num_at (p : List UInt8) (a b c d : UInt8) (r : List UInt8) (k : Nat) (h : p.length = k) : num4 (p ++ a :: b :: c :: d :: r) k = a.toNat * 16777216 + b.toNat * 65536 + c.toNat * 256 + d.toNat := by
  subst h
  have e : ∀ j, (p ++ a :: b :: c :: d :: r).getD (p.length + j) 0 = (a :: b :: c :: d :: r).getD j 0 := fun j => by
    rw [List.getD_eq_getElem?_getD, List.getD_eq_getElem?_getD, List.getElem?_append_right (by omega), Nat.add_sub_cancel_left]
  have e0 := e 0
  rw [Nat.add_zero] at e0
  unfold num4
  rw [e0, e 1, e 2, e 3]
  rfl
theorem num_be4 (p : List UInt8) (n : Nat) (r : List UInt8) (k : Nat) (hn : n < 4294967296) (h : p.length = k) : num4 (p ++ be4 n ++ r) k = n := by
  rw [be4_is, List.append_assoc]
  refine (num_at p _ _ _ _ r k h).trans ?_
  rw [of_byte _ (Nat.mod_lt _ (by decide)), of_byte _ (Nat.mod_lt _ (by decide)), of_byte _ (Nat.mod_lt _ (by decide)), of_byte _ (Nat.mod_lt _ (by decide))]
  omega
theorem cut_at (s : List UInt8) (k : Nat) (h : k + 4 ≤ s.length) : ∃ a b c d, s = s.take k ++ a :: b :: c :: d :: s.drop (k + 4) := by
  refine ⟨s[k], s[k + 1], s[k + 2], s[k + 3], ?_⟩
  have e : s.drop k = s[k] :: s[k + 1] :: s[k + 2] :: s[k + 3] :: s.drop (k + 4) := by
    rw [List.drop_eq_getElem_cons (by omega), List.drop_eq_getElem_cons (by omega), List.drop_eq_getElem_cons (by omega), List.drop_eq_getElem_cons (by omega)]
  calc s = s.take k ++ s.drop k := (List.take_append_drop k s).symm
    _ = _ := by rw [e]
theorem num_lt (s : List UInt8) (k : Nat) : num4 s k < 4294967296 := by
  unfold num4
  have a := (s.getD k 0).toNat_lt
  have b := (s.getD (k + 1) 0).toNat_lt
  have c := (s.getD (k + 2) 0).toNat_lt
  have d := (s.getD (k + 3) 0).toNat_lt
  omega
theorem be4_bytes (a b c d : UInt8) : be4 (a.toNat * 16777216 + b.toNat * 65536 + c.toNat * 256 + d.toNat) = [a, b, c, d] := by
  have ha := a.toNat_lt
  have hb := b.toNat_lt
  have hc := c.toNat_lt
  have hd := d.toNat_lt
  rw [be4_is]
  have h1 : (a.toNat * 16777216 + b.toNat * 65536 + c.toNat * 256 + d.toNat) / 2 ^ 24 % 256 = a.toNat := by omega
  have h2 : (a.toNat * 16777216 + b.toNat * 65536 + c.toNat * 256 + d.toNat) / 2 ^ 16 % 256 = b.toNat := by omega
  have h3 : (a.toNat * 16777216 + b.toNat * 65536 + c.toNat * 256 + d.toNat) / 2 ^ 8 % 256 = c.toNat := by omega
  have h4 : (a.toNat * 16777216 + b.toNat * 65536 + c.toNat * 256 + d.toNat) / 2 ^ 0 % 256 = d.toNat := by omega
  rw [h1, h2, h3, h4]
  simp
theorem be4_num (s : List UInt8) (k : Nat) (h : k + 4 ≤ s.length) : be4 (num4 s k) = (s.drop k).take 4 := by
  obtain ⟨a, b, c, d, e⟩ := cut_at s k h
  have hk : (s.take k).length = k := by rw [List.length_take]; omega
  have hn := num_at (s.take k) a b c d (s.drop (k + 4)) k hk
  rw [← e] at hn
  rw [hn, be4_bytes]
  have hd : s.drop k = a :: b :: c :: d :: s.drop (k + 4) := by
    have h2 : (s.take k ++ a :: b :: c :: d :: s.drop (k + 4)).drop k = a :: b :: c :: d :: s.drop (k + 4) := by
      rw [List.drop_append_of_le_length (by omega), List.drop_of_length_le (by omega)]
      rfl
    rw [← e] at h2
    exact h2
  rw [hd]
  rfl
theorem pack_len (p : List UInt8) : (packL p).length = p.length + 8 := by
  unfold packL
  rw [List.length_append, List.length_append, be4_len, be4_len]
  omega
/-- A record, and whatever behind it: that one is read. -/
theorem next_pack (p r : List UInt8) (h : p.length ≤ MaxP) : nextL (packL p ++ r) = (0, p, r) := by
  have hM : p.length < 4294967296 := by unfold MaxP at h; omega
  have hl : (packL p ++ r).length = p.length + 8 + r.length := by rw [List.length_append, pack_len]
  have h0 : num4 (packL p ++ r) 0 = p.length := by
    unfold packL
    rw [List.append_assoc, List.append_assoc]
    exact num_be4 [] p.length _ 0 hM rfl
  have h4 : num4 (packL p ++ r) 4 = crcL (be4 p.length ++ p) := by
    unfold packL
    rw [List.append_assoc _ p r]
    exact num_be4 (be4 p.length) _ (p ++ r) 4 (crcL_lt _) (be4_len _)
  have ht : (packL p ++ r).take 4 = be4 p.length := by
    unfold packL
    rw [List.append_assoc, List.append_assoc, List.take_append_of_le_length (by rw [be4_len]; exact Nat.le_refl _), List.take_of_length_le (by rw [be4_len]; exact Nat.le_refl _)]
  have hd : (packL p ++ r).drop 8 = p ++ r := by
    unfold packL
    rw [List.append_assoc _ p r, List.drop_append_of_le_length (by rw [List.length_append, be4_len, be4_len]; exact Nat.le_refl _), List.drop_of_length_le (by rw [List.length_append, be4_len, be4_len]; exact Nat.le_refl _)]
    rfl
  have hd2 : (packL p ++ r).drop (8 + p.length) = r := by
    rw [← List.drop_drop, hd, List.drop_append_of_le_length (Nat.le_refl _), List.drop_of_length_le (Nat.le_refl _)]
    rfl
  have htk : ((packL p ++ r).drop 8).take p.length = p := by
    rw [hd, List.take_append_of_le_length (Nat.le_refl _), List.take_of_length_le (Nat.le_refl _)]
  unfold nextL
  rw [h0, h4, ht, htk, hd2, if_neg (by rw [hl]; omega), if_neg (by omega), if_neg (by rw [hl]; omega), if_pos rfl]
/-- What is read is a record, with what is behind it. -/
theorem next_ok {s p r : List UInt8} (h : nextL s = (0, p, r)) : s = packL p ++ r ∧ p.length ≤ MaxP := by
  unfold nextL at h
  by_cases h1 : s.length < 8
  · rw [if_pos h1] at h; simp at h
  · rw [if_neg h1] at h
    by_cases h2 : MaxP < num4 s 0
    · rw [if_pos h2] at h; simp at h
    · rw [if_neg h2] at h
      by_cases h3 : s.length < num4 s 0 + 8
      · rw [if_pos h3] at h; simp at h
      · rw [if_neg h3] at h
        by_cases h4 : num4 s 4 = crcL (s.take 4 ++ (s.drop 8).take (num4 s 0))
        · rw [if_pos h4] at h
          simp only [Prod.mk.injEq, true_and] at h
          obtain ⟨rfl, rfl⟩ := h
          have hl : ((s.drop 8).take (num4 s 0)).length = num4 s 0 := by rw [List.length_take, List.length_drop]; omega
          refine ⟨?_, by rw [hl]; omega⟩
          unfold packL
          have e0 : be4 (num4 s 0) = s.take 4 := be4_num s 0 (by omega)
          have e4 := be4_num s 4 (by omega)
          rw [hl, e0, ← h4, e4]
          have a1 : s.take 4 ++ s.drop 4 = s := List.take_append_drop 4 s
          have a2 : (s.drop 4).take 4 ++ s.drop 8 = s.drop 4 := by
            have := List.take_append_drop 4 (s.drop 4)
            rw [List.drop_drop] at this
            exact this
          have a3 : (s.drop 8).take (num4 s 0) ++ s.drop (8 + num4 s 0) = s.drop 8 := by
            have := List.take_append_drop (num4 s 0) (s.drop 8)
            rw [List.drop_drop] at this
            exact this
          rw [List.append_assoc, List.append_assoc, a3, a2, a1]
        · rw [if_neg h4] at h; simp at h
theorem pack_ne (p : List UInt8) (r : List UInt8) : packL p ++ r ≠ [] := fun h => by
  have := congrArg List.length h
  rw [List.length_append, pack_len] at this
  simp at this
theorem all_join : ∀ (l : List (List UInt8)) (f : Nat), (joined l).length ≤ f → (∀ p ∈ l, p.length ≤ MaxP) → allGo f (joined l) = (l, (joined l).length, 0)
  | [], 0, _, _ => rfl
  | [], f + 1, _, _ => rfl
  | p :: l, 0, h, _ => by
    unfold joined at h
    rw [List.flatMap_cons, List.length_append, pack_len] at h
    omega
  | p :: l, f + 1, h, hp => by
    have e : joined (p :: l) = packL p ++ joined l := rfl
    rw [e] at h ⊢
    rw [List.length_append, pack_len] at h
    have ih := all_join l f (by omega) (fun q hq => hp q (List.mem_cons_of_mem _ hq))
    rw [allGo, if_neg (pack_ne p _), next_pack p _ (hp p (List.mem_cons_self ..))]
    simp only
    rw [ih, List.length_append]
    simp only [Prod.mk.injEq, true_and, and_true]
    omega
theorem all_ok : ∀ (f : Nat) (s : List UInt8), s.length ≤ f →
    (allGo f s).2.1 ≤ s.length ∧ s.take (allGo f s).2.1 = joined (allGo f s).1 ∧ (∀ p ∈ (allGo f s).1, p.length ≤ MaxP) ∧ ((allGo f s).2.2 = 0 ↔ (allGo f s).2.1 = s.length)
  | 0, s, h => by
    have e : s = [] := List.eq_nil_of_length_eq_zero (by omega)
    subst e
    exact ⟨Nat.le_refl _, rfl, fun p hp => by simp [allGo] at hp, by simp [allGo]⟩
  | f + 1, s, h => by
    rw [allGo]
    by_cases h0 : s = []
    · subst h0
      rw [if_pos rfl]
      exact ⟨Nat.le_refl _, rfl, fun p hp => by simp at hp, by simp⟩
    · rw [if_neg h0]
      obtain ⟨e, p, r, hn⟩ : ∃ e p r, nextL s = (e, p, r) := ⟨_, _, _, rfl⟩
      rw [hn]
      cases e with
      | succ e =>
        have hl : 0 < s.length := List.length_pos_iff.2 h0
        refine ⟨Nat.zero_le _, rfl, fun p hp => by simp at hp, ?_⟩
        simp only [Nat.add_eq_zero_iff, Nat.one_ne_zero, and_false, false_iff]
        omega
      | zero =>
        obtain ⟨hs, hp⟩ := next_ok hn
        have hl : s.length = p.length + 8 + r.length := by rw [hs, List.length_append, pack_len]
        obtain ⟨i1, i2, i3, i4⟩ := all_ok f r (by omega)
        simp only
        refine ⟨by omega, ?_, fun q hq => ?_, ?_⟩
        · show s.take _ = packL p ++ joined _
          rw [← i2, hs, List.length_append, pack_len, show p.length + 8 + r.length - r.length = (packL p).length by rw [pack_len]; omega, List.take_append]
          rw [List.take_of_length_le (by omega), Nat.add_sub_cancel_left]
        · rcases List.mem_cons.1 hq with rfl | hq
          · exact hp
          · exact i3 q hq
        · rw [i4]
          omega
/-- A record that is cut short. -/
theorem next_short (p r : List UInt8) (c : Nat) (h : p.length ≤ MaxP) (hc : c < (packL p).length) : nextL ((packL p ++ r).take c) = (50, [], []) := by
  have hl : ((packL p ++ r).take c).length = c := by
    rw [List.length_take, List.length_append]
    omega
  rw [pack_len] at hc
  unfold nextL
  by_cases h8 : c < 8
  · rw [if_pos (by omega)]
  · have hn : num4 ((packL p ++ r).take c) 0 = p.length := by
      have e : ∀ j, j < 4 → ((packL p ++ r).take c).getD j 0 = (packL p ++ r).getD j 0 := fun j hj => by
        rw [List.getD_eq_getElem?_getD, List.getD_eq_getElem?_getD, List.getElem?_take_of_lt (by omega)]
      unfold num4
      rw [e 0 (by decide), e (0 + 1) (by decide), e (0 + 2) (by decide), e (0 + 3) (by decide)]
      have h0 : num4 (packL p ++ r) 0 = p.length := by
        unfold packL
        rw [List.append_assoc, List.append_assoc]
        exact num_be4 [] p.length _ 0 (by unfold MaxP at h; omega) rfl
      exact h0
    rw [if_neg (by omega), hn, if_neg (by omega), if_pos (by omega)]
/-- Of records that are cut short just those are read that are whole. -/
theorem cut_go : ∀ (l : List (List UInt8)) (f c : Nat), (∀ p ∈ l, p.length ≤ MaxP) → c ≤ (joined l).length → c ≤ f →
    ∃ k, k ≤ l.length ∧ (allGo f ((joined l).take c)).1 = l.take k ∧ (allGo f ((joined l).take c)).2.1 = (joined (l.take k)).length ∧ (∀ p, l[k]? = some p → c < (joined (l.take k)).length + (packL p).length)
  | [], f, c, _, hc, _ => by
    have e : (joined []).take c = [] := by simp [joined]
    rw [e]
    refine ⟨0, Nat.le_refl _, ?_, ?_, fun p hp => by simp at hp⟩
    · cases f <;> rfl
    · cases f <;> rfl
  | p :: l, f, c, hp, hc, hf => by
    have e : joined (p :: l) = packL p ++ joined l := rfl
    have hpp := hp p (List.mem_cons_self ..)
    rw [e] at hc ⊢
    by_cases hlt : c < (packL p).length
    · refine ⟨0, Nat.zero_le _, ?_, ?_, fun q hq => ?_⟩
      · cases f with
        | zero => rfl
        | succ f =>
          rw [allGo]
          split
          · rfl
          · rw [next_short p _ c hpp hlt]
            rfl
      · cases f with
        | zero => rfl
        | succ f =>
          rw [allGo]
          split
          · rfl
          · rw [next_short p _ c hpp hlt]
            rfl
      · simp at hq
        subst hq
        simp only [List.take_zero]
        show c < 0 + _
        omega
    · rw [List.length_append] at hc
      have hcut : (packL p ++ joined l).take c = packL p ++ (joined l).take (c - (packL p).length) := by
        rw [List.take_append, List.take_of_length_le (by omega)]
      cases f with
      | zero =>
        rw [pack_len] at hlt
        omega
      | succ f =>
        obtain ⟨k, hk, h1, h2, h3⟩ := cut_go l f (c - (packL p).length) (fun q hq => hp q (List.mem_cons_of_mem _ hq)) (by omega) (by rw [pack_len]; omega)
        have hal : allGo (f + 1) ((packL p ++ joined l).take c) = (p :: (allGo f ((joined l).take (c - (packL p).length))).1, (packL p).length + (allGo f ((joined l).take (c - (packL p).length))).2.1, (allGo f ((joined l).take (c - (packL p).length))).2.2) := by
          rw [hcut, allGo, if_neg (pack_ne p _), next_pack p _ hpp]
          simp only
          rw [List.length_append, Nat.add_sub_cancel]
        have ej : joined ((p :: l).take (k + 1)) = packL p ++ joined (l.take k) := rfl
        refine ⟨k + 1, by rw [List.length_cons]; omega, by rw [hal, h1]; rfl, by rw [hal, h2, ej, List.length_append], fun q hq => ?_⟩
        rw [List.getElem?_cons_succ] at hq
        have := h3 q hq
        rw [ej, List.length_append]
        omega
theorem crc_one {P v : List UInt8} {a b : UInt8} (hP : 3 ≤ P.length) (h : crcL (P ++ a :: v) = crcL (P ++ b :: v)) : a = b := by
  obtain ⟨x, y, z, e⟩ : ∃ x y z, P = P.take (P.length - 3) ++ [x, y, z] := by
    refine ⟨P[P.length - 3], P[P.length - 2], P[P.length - 1], ?_⟩
    have e : P.drop (P.length - 3) = [P[P.length - 3], P[P.length - 2], P[P.length - 1]] := by
      rw [List.drop_eq_getElem_cons (by omega), List.drop_eq_getElem_cons (by omega), List.drop_eq_getElem_cons (by omega), List.drop_of_length_le (by omega)]
      simp only [show P.length - 3 + 1 = P.length - 2 by omega, show P.length - 2 + 1 = P.length - 1 by omega]
    rw [← e, List.take_append_drop]
  have e2 : ∀ q : UInt8, P ++ q :: v = P.take (P.length - 3) ++ [x, y, z, q] ++ v := fun q => by
    rw [show P ++ q :: v = (P.take (P.length - 3) ++ [x, y, z]) ++ q :: v by rw [← e]]
    simp
  rw [e2, e2] at h
  exact (crc_turned h).2.2.2
theorem one_cases (s : List UInt8) : (∃ q, oneL s = (0, q) ∧ nextL s = (0, q, [])) ∨ ∃ e, oneL s = (e + 1, []) := by
  unfold oneL
  obtain ⟨e, p, r, hn⟩ : ∃ e p r, nextL s = (e, p, r) := ⟨_, _, _, rfl⟩
  rw [hn]
  cases e with
  | succ e => exact .inr ⟨e, rfl⟩
  | zero =>
    cases r with
    | nil => exact .inl ⟨p, rfl, rfl⟩
    | cons x r => exact .inr ⟨31, rfl⟩
theorem xor_ne {a x : UInt8} (h : x ≠ 0) : a ^^^ x ≠ a := fun e => h (by
  have e2 : a ^^^ (a ^^^ x) = a ^^^ a := by rw [e]
  rw [← UInt8.xor_assoc, UInt8.xor_self, UInt8.zero_xor] at e2
  exact e2)
/-- A record one byte of which is another one is refused. -/
theorem one_turned (p : List UInt8) (k : Nat) (b : UInt8) (h : p.length ≤ MaxP) (hk : k < (packL p).length) (hb : b ≠ (packL p).getD k 0) : ∃ e, oneL ((packL p).set k b) = (e + 1, []) := by
  rcases one_cases ((packL p).set k b) with ⟨q, _, hn⟩ | h1
  · exfalso
    obtain ⟨hs, hq⟩ := next_ok hn
    rw [List.append_nil] at hs
    have hM : p.length < 4294967296 := by unfold MaxP at h; omega
    have hlen : q.length = p.length := by
      have := congrArg List.length hs
      rw [List.length_set, pack_len, pack_len] at this
      omega
    have hget : ∀ j, j ≠ k → (packL p)[j]? = (packL q)[j]? := fun j hj => by
      rw [← hs, List.getElem?_set_ne (by omega)]
    have hkb : (packL q)[k]? = some b := by rw [← hs, List.getElem?_set_self hk]
    have hne : (packL p)[k]? ≠ (packL q)[k]? := fun e => hb (by
      rw [List.getD_eq_getElem?_getD, e, hkb]
      rfl)
    have g1 : ∀ (x : List UInt8) j, j < 4 → (packL x)[j]? = (be4 x.length)[j]? := fun x j hj => by
      unfold packL
      rw [List.append_assoc, List.getElem?_append_left (by rw [be4_len]; exact hj)]
    have g2 : ∀ (x : List UInt8) j, j < 4 → (packL x)[4 + j]? = (be4 (crcL (be4 x.length ++ x)))[j]? := fun x j hj => by
      unfold packL
      rw [List.append_assoc, List.getElem?_append_right (by rw [be4_len]; omega), be4_len, Nat.add_sub_cancel_left, List.getElem?_append_left (by rw [be4_len]; exact hj)]
    have g3 : ∀ (x : List UInt8) j, (packL x)[8 + j]? = x[j]? := fun x j => by
      unfold packL
      rw [List.getElem?_append_right (by rw [List.length_append, be4_len, be4_len]; omega), List.length_append, be4_len, be4_len, Nat.add_sub_cancel_left]
    by_cases h4 : k < 4
    · exact hne (by rw [g1 _ _ h4, g1 _ _ h4, hlen])
    · by_cases h8 : k < 8
      · have hpq : p = q := List.ext_getElem? fun j => by
          have := hget (8 + j) (by omega)
          rw [g3, g3] at this
          exact this
        exact hne (by rw [hpq])
      · obtain ⟨i, rfl⟩ : ∃ i, k = 8 + i := ⟨k - 8, by omega⟩
        rw [g3, g3] at hne
        have hcr : crcL (be4 p.length ++ p) = crcL (be4 q.length ++ q) := by
          have e : be4 (crcL (be4 p.length ++ p)) = be4 (crcL (be4 q.length ++ q)) := List.ext_getElem? fun j => by
            by_cases hj : j < 4
            · have := hget (4 + j) (by omega)
              rw [g2 _ _ hj, g2 _ _ hj] at this
              exact this
            · rw [List.getElem?_eq_none (by rw [be4_len]; omega), List.getElem?_eq_none (by rw [be4_len]; omega)]
          have n1 := num_be4 [] (crcL (be4 p.length ++ p)) [] 0 (crcL_lt _) rfl
          have n2 := num_be4 [] (crcL (be4 q.length ++ q)) [] 0 (crcL_lt _) rfl
          rw [← n1, ← n2, e]
        rw [pack_len] at hk
        have hip : i < p.length := by omega
        have hiq : i < q.length := by omega
        have htake : p.take i = q.take i := List.ext_getElem? fun j => by
          by_cases hj : j < i
          · have := hget (8 + j) (by omega)
            rw [g3, g3] at this
            rw [List.getElem?_take_of_lt hj, List.getElem?_take_of_lt hj, this]
          · rw [List.getElem?_eq_none (by rw [List.length_take]; omega), List.getElem?_eq_none (by rw [List.length_take]; omega)]
        have hdrop : p.drop (i + 1) = q.drop (i + 1) := List.ext_getElem? fun j => by
          have := hget (8 + (i + 1 + j)) (by omega)
          rw [g3, g3] at this
          rw [List.getElem?_drop, List.getElem?_drop, this]
        have ep : p = p.take i ++ p[i] :: p.drop (i + 1) := by rw [← List.drop_eq_getElem_cons hip, List.take_append_drop]
        have eq : q = q.take i ++ q[i] :: q.drop (i + 1) := by rw [← List.drop_eq_getElem_cons hiq, List.take_append_drop]
        refine hne ?_
        rw [List.getElem?_eq_getElem hip, List.getElem?_eq_getElem hiq]
        refine congrArg some (crc_one (P := be4 p.length ++ p.take i) (v := p.drop (i + 1)) (by rw [List.length_append, be4_len]; omega) ?_)
        rw [List.append_assoc, List.append_assoc, ← ep]
        rw [hcr, hlen]
        congr 2
        rw [htake, hdrop]
        exact eq
  · exact h1
end Go.Proofs.YtfkaackhikbbkaaGreatDoor.RP
end

section
/- Layer 9's archives over lists of bytes: what is right, an archive's bytes, what is read of bytes; there and back (no program is read here). -/
namespace Go.Proofs.YtfkaackhikbbkaaGreatDoor.AP
open Go NP TP CP RP

structure Sm where
  ino : Int
  size : Int
  time : Int
  deriving DecidableEq
structure Ar where
  pair : List UInt8
  serial : Int
  tree : List Nd
  stamps : List Sm
  deriving DecidableEq
def zeroA : Ar := ⟨[], 0, [], []⟩
def isDig (b : UInt8) : Bool := (decide (48 ≤ b.toNat) && decide (b.toNat ≤ 57)) || (decide (97 ≤ b.toNat) && decide (b.toNat ≤ 102))
def fingB (l : List UInt8) : Bool := decide (l.length = 64) && l.all isDig
def bareN (n : Nd) : Bool := decide (n.kind = 2) || fingB n.data
def bareB (t : List Nd) : Bool := treeB t && t.all bareN
def okS (s : Sm) : Bool := decide (0 ≤ s.ino) && decide (0 ≤ s.size) && decide (0 ≤ s.time)
def rightA (a : Ar) : Bool := decide (a.pair ≠ []) && decide (a.pair.length ≤ 64) && decide (0 ≤ a.serial) && bareB a.tree && decide (a.stamps.length = a.tree.length) && a.stamps.all okS
def nodeS (n : Nd) (s : Sm) : List UInt8 := textS n.path ++ (numS n.kind ++ (numS n.mode ++ (textS n.data ++ (numS s.ino ++ (numS s.size ++ numS s.time)))))
def nodesS : List Nd → List Sm → List UInt8
  | n :: t, s :: u => nodeS n s ++ nodesS t u
  | _, _ => []
def ver : List UInt8 := [104, 97, 119, 115, 101, 114, 32, 49]
def payL (a : Ar) : List UInt8 := textS ver ++ (textS a.pair ++ (numS a.serial ++ (nm a.tree.length ++ nodesS a.tree a.stamps)))
def encL (a : Ar) : List UInt8 × Nat := if rightA a = true then (packL (payL a), 0) else ([], 90)
/-- A reader: what is left, and its first fault. -/
abbrev Rd := List UInt8 × Nat
def rNum (r : Rd) : Nat × Rd :=
  if r.2 ≠ 0 then (0, r) else if (rd 0 0 r.1).2.2 ≠ 0 then (0, r.1, (rd 0 0 r.1).2.2) else ((rd 0 0 r.1).1, r.1.drop (rd 0 0 r.1).2.1, 0)
def rCnt (most least : Int) (r : Rd) : Nat × Rd :=
  if r.2 ≠ 0 then (0, r) else if (cnt r.1 most least).2.2 ≠ 0 then (0, r.1, (cnt r.1 most least).2.2) else ((cnt r.1 most least).1, r.1.drop (cnt r.1 most least).2.1, 0)
def rTxt (most : Int) (r : Rd) : List UInt8 × Rd :=
  if r.2 ≠ 0 then ([], r) else if (cnt r.1 most 1).2.2 ≠ 0 then ([], r.1, (cnt r.1 most 1).2.2)
  else ((r.1.drop (cnt r.1 most 1).2.1).take (cnt r.1 most 1).1, r.1.drop ((cnt r.1 most 1).2.1 + (cnt r.1 most 1).1), 0)
def rNodeA (r : Rd) : List UInt8 × Rd := rTxt 400 r
def rNode (r : Rd) : (Nd × Sm) × Rd :=
  let a := rTxt 400 r; let b := rNum a.2; let c := rNum b.2; let d := rTxt 64 c.2; let e := rNum d.2; let f := rNum e.2; let g := rNum f.2
  ((⟨a.1, b.1, d.1, c.1⟩, ⟨e.1, f.1, g.1⟩), g.2)
def rNodes : Nat → Rd → List Nd × List Sm × Rd
  | 0, r => ([], [], r)
  | k + 1, r => ((rNodes k r).1 ++ [(rNode (rNodes k r).2.2).1.1], (rNodes k r).2.1 ++ [(rNode (rNodes k r).2.2).1.2], (rNode (rNodes k r).2.2).2)
def readA (p : List UInt8) : Ar × Bool :=
  let v := rTxt 8 (p, 0)
  if v.1 = ver then
    let a := rTxt 64 v.2; let s := rNum a.2; let n := rCnt 1000 8 s.2; let q := rNodes n.1 n.2
    (⟨a.1, s.1, q.1, q.2.1⟩, decide (q.2.2.2 = 0 ∧ q.2.2.1 = []))
  else (zeroA, false)
def decL (s : List UInt8) : Ar × Nat :=
  if (oneL s).1 = 0 ∧ (readA (oneL s).2).2 = true ∧ rightA (readA (oneL s).2).1 = true then ((readA (oneL s).2).1, 0) else (zeroA, 90)

theorem nm_one {n : Nat} (h : n < 128) : (nm n).length = 1 := by rw [nm_lt h]; rfl
theorem nm_pos (n : Nat) : 1 ≤ (nm n).length := List.length_pos_iff.2 (nm_ne n)
theorem nm_len9 {n : Nat} (h : n < 2 ^ 63) : (nm n).length ≤ 9 := by
  have := nm_length (n := n) (k := 0) (by decide) (by have e : (128 : Nat) ^ (9 - 0) = 2 ^ 63 := by decide
                                                      omega)
  omega
theorem nm_len2 {n : Nat} (h : n < 16384) : (nm n).length ≤ 2 := by
  have := nm_length (n := n) (k := 7) (by decide) (by have e : (128 : Nat) ^ (9 - 7) = 16384 := by decide
                                                      omega)
  omega
theorem numS_nat {n : Int} (h : 0 ≤ n) : numS n = nm n.toNat := by unfold numS; rw [if_neg (by omega)]
theorem rd_at {n : Nat} (r : List UInt8) (h : n < 2 ^ 63) : rd 0 0 (nm n ++ r) = (n, (nm n).length, 0) := by
  have e : (128 : Nat) ^ (9 - 0) = 2 ^ 63 := by decide
  rw [rd_nm (by decide) (by omega) (.inl rfl)]
  simp
theorem rNum_at {n : Nat} (r : List UInt8) (h : n < 2 ^ 63) : rNum (nm n ++ r, 0) = (n, r, 0) := by
  unfold rNum
  rw [if_neg (by simp), rd_at r h, if_neg (by simp)]
  simp
theorem cnt_at {n : Nat} (r : List UInt8) (most least : Int) (h : n < 2 ^ 63) (hm : (n : Int) ≤ most) (hl : (n : Int) ≤ (r.length : Int) / max least 1) : cnt (nm n ++ r) most least = (n, (nm n).length, 0) := by
  have e : (((nm n ++ r).length : Nat) : Int) - ((nm n).length : Nat) = (r.length : Nat) := by rw [List.length_append]; omega
  unfold cnt
  rw [rd_at r h, if_neg (by simp), if_neg (by simp; omega)]
  simp only []
  rw [e, if_neg (by omega)]
theorem rCnt_at {n : Nat} (r : List UInt8) (most least : Int) (h : n < 2 ^ 63) (hm : (n : Int) ≤ most) (hl : (n : Int) ≤ (r.length : Int) / max least 1) : rCnt most least (nm n ++ r, 0) = (n, r, 0) := by
  unfold rCnt
  rw [if_neg (by simp), cnt_at r most least h hm hl, if_neg (by simp)]
  simp
theorem rTxt_at (t r : List UInt8) (most : Int) (h : t.length < 2 ^ 63) (hm : (t.length : Int) ≤ most) : rTxt most (textS t ++ r, 0) = (t, r, 0) := by
  have hc : cnt (textS t ++ r) most 1 = (t.length, (nm t.length).length, 0) := by
    unfold textS
    rw [List.append_assoc]
    exact cnt_at (t ++ r) most 1 h hm (by rw [show max (1 : Int) 1 = 1 by decide, Int.ediv_one, List.length_append]; omega)
  unfold rTxt
  rw [if_neg (by simp), hc, if_neg (by simp)]
  simp only []
  unfold textS
  rw [List.append_assoc]
  have e1 : (nm t.length ++ (t ++ r)).drop (nm t.length).length = t ++ r := by simp
  rw [e1, ← List.drop_drop, e1]
  simp
/-- Numbers that fit in Go's int. -/
def Fits (n : Int) : Prop := n < 9223372036854775808
structure FitN (n : Nd) : Prop where
  kind : Fits n.kind
  mode : Fits n.mode
structure FitS (s : Sm) : Prop where
  ino : Fits s.ino
  size : Fits s.size
  time : Fits s.time
structure FitA (a : Ar) : Prop where
  serial : Fits a.serial
  stamps : ∀ s ∈ a.stamps, FitS s
theorem right_num {n : Nd} (h : rightB n = true) : 0 ≤ n.kind ∧ n.kind < 128 ∧ 0 ≤ n.mode ∧ n.mode < 16384 := by
  unfold rightB at h
  by_cases h1 : n.kind = 1
  · rw [if_pos h1] at h
    simp at h
    omega
  · rw [if_neg h1] at h
    by_cases h2 : n.kind = 2
    · rw [if_pos h2] at h
      simp at h
      omega
    · rw [if_neg h2] at h
      by_cases h3 : n.kind = 3
      · rw [if_pos h3] at h
        simp at h
        omega
      · rw [if_neg h3] at h
        cases h
theorem right_dir {n : Nd} (h : rightB n = true) (hk : n.kind = 2) : n.data = [] := by
  unfold rightB at h
  rw [if_neg (by omega), if_pos hk] at h
  simp at h
  exact h.1
structure RightA (a : Ar) : Prop where
  pair : a.pair ≠ []
  pairL : a.pair.length ≤ 64
  serial : 0 ≤ a.serial
  tree : Tree a.tree
  bare : ∀ n ∈ a.tree, n.kind = 2 ∨ fingB n.data = true
  len : a.stamps.length = a.tree.length
  ok : ∀ s ∈ a.stamps, 0 ≤ s.ino ∧ 0 ≤ s.size ∧ 0 ≤ s.time
theorem right_iff (a : Ar) : rightA a = true ↔ RightA a := by
  unfold rightA bareB
  constructor
  · intro h
    simp only [Bool.and_eq_true, decide_eq_true_eq, List.all_eq_true] at h
    obtain ⟨⟨⟨⟨⟨h1, h2⟩, h3⟩, h4, h5⟩, h6⟩, h7⟩ := h
    exact ⟨h1, h2, h3, (tree_iff _).1 h4, fun n hn => by have := h5 n hn; unfold bareN at this; simpa using this, h6, fun s hs => by have := h7 s hs; unfold okS at this; simp at this; omega⟩
  · rintro ⟨h1, h2, h3, h4, h5, h6, h7⟩
    simp only [Bool.and_eq_true, decide_eq_true_eq, List.all_eq_true]
    exact ⟨⟨⟨⟨⟨h1, h2⟩, h3⟩, (tree_iff _).2 h4, fun n hn => by unfold bareN; simpa using h5 n hn⟩, h6⟩, fun s hs => by unfold okS; have := h7 s hs; simp; omega⟩
theorem data_len {n : Nd} (hr : rightB n = true) (hb : n.kind = 2 ∨ fingB n.data = true) : n.data.length ≤ 64 := by
  rcases hb with h | h
  · rw [right_dir hr h]; exact Nat.zero_le _
  · unfold fingB at h; simp at h; omega
/-- A node that can stand in an archive, with its stamp. -/
structure NodeOk (n : Nd) (s : Sm) : Prop where
  path : n.path ≠ []
  pathL : n.path.length ≤ 400
  data : n.data.length ≤ 64
  k0 : 0 ≤ n.kind
  k1 : n.kind < 128
  m0 : 0 ≤ n.mode
  m1 : n.mode < 16384
  s0 : 0 ≤ s.ino ∧ 0 ≤ s.size ∧ 0 ≤ s.time
  s1 : s.ino < 9223372036854775808 ∧ s.size < 9223372036854775808 ∧ s.time < 9223372036854775808
theorem node_ok {a : Ar} (h : RightA a) (hf : FitA a) {n : Nd} {s : Sm} (hn : n ∈ a.tree) (hs : s ∈ a.stamps) : NodeOk n s := by
  have hp := h.tree.path n hn
  obtain ⟨k0, k1, m0, m1⟩ := right_num (h.tree.right n hn)
  obtain ⟨f1, f2, f3⟩ := hf.stamps s hs
  exact ⟨path_ne hp, ((path_iff _).1 hp).1, data_len (h.tree.right n hn) (h.bare n hn), k0, k1, m0, m1, h.ok s hs, f1, f2, f3⟩
theorem nodeS_len {n : Nd} {s : Sm} (h : NodeOk n s) : 8 ≤ (nodeS n s).length ∧ (nodeS n s).length ≤ 500 := by
  obtain ⟨hp, hpl, hd, k0, k1, m0, m1, ⟨a0, b0, c0⟩, a1, b1, c1⟩ := h
  have hpos := List.length_pos_iff.2 hp
  unfold nodeS textS
  rw [numS_nat k0, numS_nat m0, numS_nat a0, numS_nat b0, numS_nat c0]
  simp only [List.length_append]
  have x1 := nm_len2 (n := n.path.length) (by omega)
  have x2 := nm_one (n := n.kind.toNat) (by omega)
  have x3 := nm_len2 (n := n.mode.toNat) (by omega)
  have x4 := nm_one (n := n.data.length) (by omega)
  have x5 := nm_len9 (n := s.ino.toNat) (by omega)
  have x6 := nm_len9 (n := s.size.toNat) (by omega)
  have x7 := nm_len9 (n := s.time.toNat) (by omega)
  have y1 := nm_pos n.path.length
  have y3 := nm_pos n.mode.toNat
  have y5 := nm_pos s.ino.toNat
  have y6 := nm_pos s.size.toNat
  have y7 := nm_pos s.time.toNat
  omega
theorem nodesS_len : ∀ (t : List Nd) (u : List Sm), u.length = t.length → (∀ n ∈ t, ∀ s ∈ u, NodeOk n s) → 8 * t.length ≤ (nodesS t u).length ∧ (nodesS t u).length ≤ 500 * t.length
  | [], u, _, _ => by cases u <;> simp [nodesS]
  | n :: t, [], h, _ => by simp at h
  | n :: t, s :: u, h, hok => by
    have h1 := nodeS_len (hok n (List.mem_cons_self ..) s (List.mem_cons_self ..))
    have h2 := nodesS_len t u (by simpa using h) (fun a ha b hb => hok a (List.mem_cons_of_mem _ ha) b (List.mem_cons_of_mem _ hb))
    rw [nodesS, List.length_append, List.length_cons]
    omega
theorem rNode_at {n : Nd} {s : Sm} (h : NodeOk n s) (r : List UInt8) : rNode (nodeS n s ++ r, 0) = ((n, s), r, 0) := by
  obtain ⟨hp, hpl, hd, k0, k1, m0, m1, ⟨a0, b0, c0⟩, a1, b1, c1⟩ := h
  unfold rNode nodeS
  rw [numS_nat k0, numS_nat m0, numS_nat a0, numS_nat b0, numS_nat c0]
  simp only [List.append_assoc]
  rw [rTxt_at _ _ _ (by omega) (by omega)]
  simp only []
  rw [rNum_at _ (by omega)]
  simp only []
  rw [rNum_at _ (by omega)]
  simp only []
  rw [rTxt_at _ _ _ (by omega) (by omega)]
  simp only []
  rw [rNum_at _ (by omega)]
  simp only []
  rw [rNum_at _ (by omega)]
  simp only []
  rw [rNum_at _ (by omega)]
  simp only [Prod.mk.injEq, and_true]
  obtain ⟨p, k, d, m⟩ := n
  obtain ⟨x, y, z⟩ := s
  simp only [Nd.mk.injEq, Sm.mk.injEq, true_and]
  simp only [] at k0 m0 a0 b0 c0
  omega
theorem nodesS_split : ∀ (k : Nat) (t : List Nd) (u : List Sm), k < t.length → u.length = t.length → ∃ n s, t[k]? = some n ∧ u[k]? = some s ∧ nodesS (t.drop k) (u.drop k) = nodeS n s ++ nodesS (t.drop (k + 1)) (u.drop (k + 1))
  | k, t, u, hk, hl => by
    refine ⟨t[k], u[k], List.getElem?_eq_getElem hk, List.getElem?_eq_getElem (by omega), ?_⟩
    rw [List.drop_eq_getElem_cons hk, List.drop_eq_getElem_cons (show k < u.length by omega), nodesS]
theorem rNodes_at (t : List Nd) (u : List Sm) (hl : u.length = t.length) (hok : ∀ n ∈ t, ∀ s ∈ u, NodeOk n s) (r : List UInt8) : ∀ k, k ≤ t.length → rNodes k (nodesS t u ++ r, 0) = (t.take k, u.take k, nodesS (t.drop k) (u.drop k) ++ r, 0)
  | 0, _ => by simp [rNodes]
  | k + 1, hk => by
    have ih := rNodes_at t u hl hok r k (by omega)
    obtain ⟨n, s, hn, hs, e⟩ := nodesS_split k t u (by omega) hl
    have h1 := rNode_at (hok n (List.mem_of_getElem? hn) s (List.mem_of_getElem? hs)) (nodesS (t.drop (k + 1)) (u.drop (k + 1)) ++ r)
    rw [rNodes, ih]
    simp only []
    rw [e, List.append_assoc, h1, List.take_add_one, List.take_add_one, hn, hs]
    rfl
/-- An archive's payload is read as that archive. -/
theorem read_pay {a : Ar} (h : RightA a) (hf : FitA a) : readA (payL a) = (a, true) := by
  have hok : ∀ n ∈ a.tree, ∀ s ∈ a.stamps, NodeOk n s := fun n hn s hs => node_ok h hf hn hs
  have hlen := nodesS_len a.tree a.stamps h.len hok
  have htl := h.tree.len
  have hser := h.serial
  have hfs := hf.serial
  unfold Fits at hfs
  have hpl := h.pairL
  unfold readA payL
  rw [rTxt_at ver _ _ (by decide) (by decide)]
  simp only [if_true]
  rw [rTxt_at a.pair _ _ (by omega) (by omega)]
  simp only []
  rw [numS_nat hser, rNum_at _ (by omega)]
  simp only []
  rw [rCnt_at _ _ _ (by omega) (by omega) (by rw [show max (8 : Int) 1 = 8 by decide]; omega)]
  simp only []
  have hn := rNodes_at a.tree a.stamps h.len hok [] a.tree.length (Nat.le_refl _)
  rw [List.append_nil] at hn
  rw [hn]
  simp only [List.take_length]
  rw [← h.len, List.take_length, List.drop_length, h.len, List.drop_length]
  obtain ⟨p, s, t, u⟩ := a
  simp only [Prod.mk.injEq, Ar.mk.injEq, true_and]
  simp only [] at hser
  refine ⟨⟨by omega, trivial⟩, by simp [nodesS]⟩
theorem pay_len {a : Ar} (h : RightA a) (hf : FitA a) : (payL a).length ≤ MaxP := by
  have hok : ∀ n ∈ a.tree, ∀ s ∈ a.stamps, NodeOk n s := fun n hn s hs => node_ok h hf hn hs
  have hlen := nodesS_len a.tree a.stamps h.len hok
  have htl := h.tree.len
  have hser := h.serial
  have hfs := hf.serial
  unfold Fits at hfs
  have hpl := h.pairL
  unfold payL textS MaxP
  rw [numS_nat hser]
  simp only [List.length_append]
  have x1 := nm_len2 (n := ver.length) (by decide)
  have x2 := nm_len2 (n := a.pair.length) (by omega)
  have x3 := nm_len9 (n := a.serial.toNat) (by omega)
  have x4 := nm_len2 (n := a.tree.length) (by omega)
  have x5 : ver.length = 8 := rfl
  omega
/-- What one record holds. -/
theorem one_of {s p : List UInt8} (h : nextL s = (0, p, [])) : oneL s = (0, p) := by unfold oneL; rw [h]
theorem one_pack {p : List UInt8} (h : p.length ≤ MaxP) : oneL (packL p) = (0, p) := one_of (by
  have hn := next_pack p [] h
  rw [List.append_nil] at hn
  exact hn)
theorem dec_enc {a : Ar} (h : RightA a) (hf : FitA a) : decL (packL (payL a)) = (a, 0) := by
  unfold decL
  rw [one_pack (pay_len h hf), read_pay h hf, if_pos ⟨rfl, rfl, (right_iff a).2 h⟩]
theorem enc_inj {a b : Ar} (ha : RightA a) (hfa : FitA a) (hb : RightA b) (hfb : FitA b) (h : packL (payL a) = packL (payL b)) : a = b := by
  have h1 := dec_enc ha hfa
  rw [h, dec_enc hb hfb] at h1
  exact (Prod.mk.inj h1).1.symm
theorem dec_bad {s : List UInt8} (h : (oneL s).1 ≠ 0) : decL s = (zeroA, 90) := by
  unfold decL
  rw [if_neg (fun x => h x.1)]
end Go.Proofs.YtfkaackhikbbkaaGreatDoor.AP
end

section
/- Layer 9: stamps in memory. -/
namespace Go.Proofs.YtfkaackhikbbkaaGreatDoor
open Go.RowKit Go.Lib
namespace AR
open OM TP TM AP

def smCells (s : Sm) : List Value := [.int .i64 s.ino, .int .i64 s.size, .int .i64 s.time]
def smVal (s : Sm) : Value := .agg #[.int .i64 s.ino, .int .i64 s.size, .int .i64 s.time]
def smsC (l : List Sm) : List Value := l.flatMap smCells
structure SmAt (W : World) (g o : Nat) (s : Sm) : Prop where
  i : W.cell? ⟨g, o, none⟩ = some (.int .i64 s.ino)
  z : W.cell? ⟨g, o + 1, none⟩ = some (.int .i64 s.size)
  t : W.cell? ⟨g, o + 2, none⟩ = some (.int .i64 s.time)
def LayM (W : World) (ao : Option Addr) (l : List Sm) : Prop :=
  0 < l.length → ∃ g o, ao = some ⟨g, o, none⟩ ∧ g < W.heap.size ∧ ∀ (k : Nat) (s : Sm), l[k]? = some s → SmAt W g (o + k * 3) s
theorem LayM.below {W W' : World} {ao : Option Addr} {l : List Sm} (h : LayM W ao l) (hb : Below W.heap.size W W') : LayM W' ao l := fun h0 => by
  obtain ⟨g, o, e, hlt, hc⟩ := h h0
  refine ⟨g, o, e, Nat.lt_of_lt_of_le hlt hb.size, fun k s hk => ?_⟩
  obtain ⟨a, b, c⟩ := hc k s hk
  exact ⟨(hb.cell (p := ⟨g, _, none⟩) hlt).trans a, (hb.cell (p := ⟨g, _, none⟩) hlt).trans b, (hb.cell (p := ⟨g, _, none⟩) hlt).trans c⟩
theorem LayM.nil (W : World) (ao : Option Addr) : LayM W ao [] := fun h => absurd h (by simp)
theorem sms_len (l : List Sm) : (smsC l).length = l.length * 3 := by
  induction l with
  | nil => rfl
  | cons s l ih =>
    have e : smsC (s :: l) = smCells s ++ smsC l := rfl
    rw [e, List.length_append, ih, List.length_cons]
    show 3 + _ = _
    omega
theorem sms_at : ∀ (l : List Sm) (k : Nat) (s : Sm), l[k]? = some s → (smsC l)[k * 3]? = some (.int .i64 s.ino) ∧ (smsC l)[k * 3 + 1]? = some (.int .i64 s.size) ∧ (smsC l)[k * 3 + 2]? = some (.int .i64 s.time)
  | [], k, s, h => by simp at h
  | x :: l, 0, s, h => by
    simp at h
    subst h
    exact ⟨rfl, rfl, rfl⟩
  | x :: l, k + 1, s, h => by
    rw [List.getElem?_cons_succ] at h
    have ih := sms_at l k s h
    have e : smsC (x :: l) = .int .i64 x.ino :: .int .i64 x.size :: .int .i64 x.time :: smsC l := rfl
    rw [e, show (k + 1) * 3 = k * 3 + 1 + 1 + 1 by omega]
    exact ih
theorem sms_snoc (l : List Sm) (s : Sm) : smsC (l ++ [s]) = smsC l ++ smCells s := by
  unfold smsC
  rw [List.flatMap_append]
  simp
theorem laym_own {w : World} {B : Nat} {v : Value} {l : List Sm} (h : w.ownsRow B 67 3 v l.length (smsC l)) : ∃ ao c, v = .slice ao l.length c ∧ LayM w ao l := by
  obtain ⟨ao, c, rfl, hx⟩ := owns_view h
  refine ⟨ao, c, rfl, fun h0 => ?_⟩
  obtain ⟨g, rfl, hg, _, hc⟩ := hx h0
  refine ⟨g, 0, rfl, hg, fun k s hk => ?_⟩
  have hkl := (List.getElem?_eq_some_iff.1 hk).1
  obtain ⟨a, b, c⟩ := sms_at l k s hk
  exact ⟨by rw [Nat.zero_add, hc _ (by omega), a], by rw [Nat.zero_add, hc _ (by omega), b], by rw [Nat.zero_add, hc _ (by omega), c]⟩
end AR
end Go.Proofs.YtfkaackhikbbkaaGreatDoor
end

section
/- Layer 1: the contracts of rank, cmp.Compare at int and name.Order: what they answer for every argument, in every world. -/
namespace Go.Proofs.YtfkaackhikbbkaaGreatDoor
open Go.RowKit Go.Lib
namespace NO

theorem u8_lt (c : UInt8) : (c.toNat : Int) < 256 := by have := c.toNat_lt; omega
theorem rank_any (c : UInt8) (w : World) :
    Calls Tryz.prog 115 #[.int .u8 c.toNat] w fun e w' => e = .returned (.int .i64 (NP.rk c)) ∧ w = w' := by
  have h256 := u8_lt c
  have h0 : (0 : Int) ≤ (c.toNat : Int) := by omega
  by_cases h : c = 47
  · subst h
    go_enter Tryz.func115, Tryz.ntmps115
    go_wp2
    go_ret
    exact ⟨rfl, rfl⟩
  · have hb : ((c.toNat : Int) == 47) = false := by
      apply beq_eq_false_iff_ne.2
      intro e
      apply h
      apply UInt8.toNat_inj.1
      show c.toNat = 47
      omega
    have e : NP.rk c = c.toNat + 1 := by unfold NP.rk; rw [if_neg h]
    have E := Lib.hid e
    clear e
    clear h
    go_enter Tryz.func115, Tryz.ntmps115
    go_wp2
    go_ret
    exact ⟨by rw [E.out]; rfl, rfl⟩

theorem cmp_any (x y : Int) (w : World) :
    Calls Tryz.prog 114 #[.int .i64 x, .int .i64 y] w fun e w' => e = .returned (.int .i64 (if x < y then -1 else if y < x then 1 else 0)) ∧ w = w' := by
  by_cases h1 : x < y
  · rw [if_pos h1]
    go_enter Tryz.func114, Tryz.ntmps114
    go_wp2
    go_ret
    exact ⟨rfl, rfl⟩
  · rw [if_neg h1]
    by_cases h2 : y < x
    · rw [if_pos h2]
      go_enter Tryz.func114, Tryz.ntmps114
      go_wp2
      go_ret
      exact ⟨rfl, rfl⟩
    · rw [if_neg h2]
      go_enter Tryz.func114, Tryz.ntmps114
      go_wp2
      go_ret
      exact ⟨rfl, rfl⟩
theorem cmp_nat (x y : Nat) (w : World) :
    Calls Tryz.prog 114 #[.int .i64 x, .int .i64 y] w fun e w' => e = .returned (.int .i64 (NP.cmpN x y)) ∧ w = w' :=
  (cmp_any x y w).mono fun e w' ⟨he, hw⟩ => ⟨by
    rw [he]
    unfold NP.cmpN
    by_cases h1 : x < y
    · rw [if_pos h1, if_pos (by omega)]
    · by_cases h2 : y < x
      · rw [if_neg h1, if_pos h2, if_neg (by omega), if_pos (by omega)]
      · rw [if_neg h1, if_neg h2, if_neg (by omega), if_neg (by omega)], hw⟩

theorem get_data (s : ByteArray) (i : Nat) (h : i < s.size) : s.data.toList[i]? = some s[i] := Lib.data_getElem? s i h
theorem take_succ_eq {a b : List UInt8} {i : Nat} {x : UInt8} (h : a.take i = b.take i) (ha : a[i]? = some x) (hb : b[i]? = some x) : a.take (i + 1) = b.take (i + 1) := by
  rw [List.take_add_one, List.take_add_one, h, ha, hb]
def Drawn (w w' : World) : Prop := ∃ n, w' = w.drewN n
theorem Drawn.refl (w : World) : Drawn w w := ⟨0, rfl⟩
theorem Drawn.drewN {w w' : World} (h : Drawn w w') (n : Nat) : Drawn w (w'.drewN n) := by obtain ⟨k, rfl⟩ := h; exact ⟨k + n, by simp⟩
theorem Drawn.trans {w w' w2 : World} (h : Drawn w w') (k : Drawn w' w2) : Drawn w w2 := by obtain ⟨n, rfl⟩ := k; exact h.drewN n
set_option maxHeartbeats 1600000 in
theorem order_any (a b : ByteArray) (w : World) (ha : a.size ≤ maxLen) (hb : b.size ≤ maxLen) :
    Calls Tryz.prog 85 #[.string a, .string b] w fun e w' => e = .returned (.int .i64 (NP.ordL a.data.toList b.data.toList)) ∧ Drawn w w' := by
  unfold maxLen at ha hb
  have Hsa := Lib.hid (Lib.size_eq a)
  have Hsb := Lib.hid (Lib.size_eq b)
  by_cases hab : a.size ≤ b.size
  all_goals
    obtain ⟨m, hm⟩ : ∃ m, m = min a.size b.size := ⟨_, rfl⟩
    have hma : m ≤ a.size := by omega
    have hmb : m ≤ b.size := by omega
    have hmm : a.size ≤ m ∨ b.size ≤ m := by omega
    have Hm := Lib.hid hm
    clear hm
    go_enter Tryz.func85, Tryz.ntmps85
    go_wp2
    go_loopw [11] (fun i wr => ∃ k : Nat, k ≤ m ∧ i = .int .i64 k ∧ a.data.toList.take k = b.data.toList.take k ∧ Drawn w wr) (fun i _ => m - (Go.RowKit.intOf i).toNat)
    case atStart => exact ⟨0, Nat.zero_le _, rfl, rfl, Drawn.refl _⟩
    case round =>
      obtain ⟨k, hk, rfl, ht, hdr⟩ := hrel
      have Ht := Lib.hid ht
      have Hdr := Lib.hid hdr
      clear ht hdr
      by_cases hlt : k < m
      · have hz1 : (k : Int) < a.size := by omega
        have hz2 : (k : Int) < b.size := by omega
        have hka : k < a.size := by omega
        have hkb : k < b.size := by omega
        by_cases hxy : a[k] = b[k]
        · have hd : (((a[k].toNat : Nat) : Int) != ((b[k].toNat : Nat) : Int)) = false := by rw [hxy]; simp
          have Hxy := Lib.hid hxy
          clear hxy
          go_wp2
          go_quiet (fail)
          go_wp2
          go_roundw
          case rel =>
            exact ⟨k + 1, by omega, by go_num, take_succ_eq Ht.out (get_data a k hka) (by rw [Hxy.out]; exact get_data b k hkb), Hdr.out.drewN _⟩
          case measure => simp [Go.RowKit.intOf]; omega
        · have hne : ((a[k].toNat : Nat) : Int) ≠ ((b[k].toNat : Nat) : Int) := fun e => hxy (UInt8.toNat_inj.1 (by omega))
          have hd : (((a[k].toNat : Nat) : Int) != ((b[k].toNat : Nat) : Int)) = true := by rw [bne_iff_ne]; exact hne
          have He := Lib.hid (NP.ordL_miss Ht.out (get_data a k hka) (get_data b k hkb) hxy)
          clear hxy hne
          go_wp2
          go_quiet (fail)
          rename_i nq
          go_wp2_with fail
          have Hd2 := Lib.hid (Hdr.out.drewN nq)
          generalize wr.drewN nq = w2 at Hd2 ⊢
          go_quiet (first | (go_at_call 115; exact Calls.quiet_of_same ((rank_any _ _).mono fun e w' h => ⟨h.1, h.2.symm⟩)) | (go_at_call 114; exact Calls.quiet_of_same ((cmp_nat _ _ _).mono fun e w' h => ⟨h.1, h.2.symm⟩)))
          go_wp2
          go_ret
          exact ⟨by rw [He.out]; rfl, Hd2.out.drewN _⟩
      · have hkm : ¬ (k : Int) < m := by omega
        have ek : k = m := by omega
        subst ek
        have He := Lib.hid (NP.ordL_end (a := a.data.toList) (b := b.data.toList) (by rw [← Hsa.out, ← Hsb.out]; exact Hm.out) Ht.out)
        first
          | (have hna : ¬ (k : Int) < a.size := by omega
             go_wp2_with (go_at_call 114; refine (cmp_nat _ _ _).mono ?_; rintro e w' ⟨rfl, rfl⟩))
          | (have hnb : ¬ (k : Int) < b.size := by omega
             go_wp2_with (go_at_call 114; refine (cmp_nat _ _ _).mono ?_; rintro e w' ⟨rfl, rfl⟩))
        go_ret
        exact ⟨by rw [He.out, ← Hsa.out, ← Hsb.out]; rfl, Hdr.out⟩
end NO
end Go.Proofs.YtfkaackhikbbkaaGreatDoor
end

section
/- Layer 6 over lists: where two trees differ; the names in a directory; a value moved (no program is read here). -/
namespace Go.Proofs.YtfkaackhikbbkaaGreatDoor.TP
open Go NP

/- where two trees differ -/
def diffM : List Nd → List Nd → List (List UInt8)
  | [], b => b.map (·.path)
  | x :: a, [] => (x :: a).map (·.path)
  | x :: a, y :: b =>
    if ordL x.path y.path < 0 then x.path :: diffM a (y :: b)
    else if ordL y.path x.path < 0 then y.path :: diffM (x :: a) b
    else if x = y then diffM a b else x.path :: diffM a b
  termination_by a b => a.length + b.length
def differL (a b : List Nd) : List (List UInt8) := if treeB a = true ∧ treeB b = true then diffM a b else []
theorem diffM_nil : ∀ {a b : List Nd}, diffM a b = [] → a = b
  | [], b, h => by
    rw [diffM] at h
    exact (List.map_eq_nil_iff.1 h).symm
  | x :: a, [], h => by
    rw [diffM] at h
    exact List.map_eq_nil_iff.1 h
  | x :: a, y :: b, h => by
    rw [diffM] at h
    split at h
    · simp at h
    · split at h
      · simp at h
      · split at h
        · rename_i e
          rw [e, diffM_nil h]
        · simp at h
  termination_by a b => a.length + b.length
theorem diffM_self : ∀ a : List Nd, diffM a a = []
  | [] => by rw [diffM]; rfl
  | x :: a => by
    rw [diffM, if_neg (ord_irr _), if_neg (ord_irr _), if_pos rfl]
    exact diffM_self a
theorem diffM_mem : ∀ {a b : List Nd}, Sorted a → Sorted b → ∀ q ∈ diffM a b, (∃ n ∈ a, n.path = q ∧ n ∉ b) ∨ (∃ n ∈ b, n.path = q ∧ n ∉ a)
  | [], b, _, _, q, h => by
    rw [diffM, List.mem_map] at h
    obtain ⟨n, hn, e⟩ := h
    exact .inr ⟨n, hn, e, by simp⟩
  | x :: a, [], _, _, q, h => by
    rw [diffM, List.mem_map] at h
    obtain ⟨n, hn, e⟩ := h
    exact .inl ⟨n, hn, e, by simp⟩
  | x :: a, y :: b, ha, hb, q, h => by
    have ax : ∀ m ∈ a, lt x m := fun m hm => List.rel_of_pairwise_cons ha hm
    have bx : ∀ m ∈ b, lt y m := fun m hm => List.rel_of_pairwise_cons hb hm
    rw [diffM] at h
    by_cases h1 : ordL x.path y.path < 0
    · rw [if_pos h1] at h
      have hx : x ∉ y :: b := fun hm => by
        rcases List.mem_cons.1 hm with e | e
        · rw [e] at h1; exact ord_irr _ h1
        · exact ord_neg h1 (bx x e)
      rcases List.mem_cons.1 h with e | h
      · exact .inl ⟨x, List.mem_cons_self .., e.symm, hx⟩
      · rcases diffM_mem (List.Pairwise.of_cons ha) hb q h with ⟨n, hn, e, hno⟩ | ⟨n, hn, e, hno⟩
        · exact .inl ⟨n, List.mem_cons_of_mem _ hn, e, hno⟩
        · refine .inr ⟨n, hn, e, fun hm => ?_⟩
          rcases List.mem_cons.1 hm with e2 | e2
          · rw [e2] at hn; exact hx hn
          · exact hno e2
    · rw [if_neg h1] at h
      by_cases h2 : ordL y.path x.path < 0
      · rw [if_pos h2] at h
        have hy : y ∉ x :: a := fun hm => by
          rcases List.mem_cons.1 hm with e | e
          · rw [e] at h2; exact ord_irr _ h2
          · exact ord_neg h2 (ax y e)
        rcases List.mem_cons.1 h with e | h
        · exact .inr ⟨y, List.mem_cons_self .., e.symm, hy⟩
        · rcases diffM_mem ha (List.Pairwise.of_cons hb) q h with ⟨n, hn, e, hno⟩ | ⟨n, hn, e, hno⟩
          · refine .inl ⟨n, hn, e, fun hm => ?_⟩
            rcases List.mem_cons.1 hm with e2 | e2
            · rw [e2] at hn; exact hy hn
            · exact hno e2
          · exact .inr ⟨n, List.mem_cons_of_mem _ hn, e, hno⟩
      · rw [if_neg h2] at h
        have hp : x.path = y.path := by
          rcases ord_tri x.path y.path with e | e | e
          · exact absurd e h1
          · exact e
          · exact absurd e h2
        have hxb : x ∉ b := fun hm => by
          have := bx x hm
          unfold lt at this
          rw [← hp] at this
          exact ord_irr _ this
        have hya : y ∉ a := fun hm => by
          have := ax y hm
          unfold lt at this
          rw [hp] at this
          exact ord_irr _ this
        have step : ∀ q ∈ diffM a b, (∃ n ∈ x :: a, n.path = q ∧ n ∉ y :: b) ∨ (∃ n ∈ y :: b, n.path = q ∧ n ∉ x :: a) := fun q h => by
          rcases diffM_mem (List.Pairwise.of_cons ha) (List.Pairwise.of_cons hb) q h with ⟨n, hn, e, hno⟩ | ⟨n, hn, e, hno⟩
          · refine .inl ⟨n, List.mem_cons_of_mem _ hn, e, fun hm => ?_⟩
            rcases List.mem_cons.1 hm with e2 | e2
            · rw [e2] at hn; exact hya hn
            · exact hno e2
          · refine .inr ⟨n, List.mem_cons_of_mem _ hn, e, fun hm => ?_⟩
            rcases List.mem_cons.1 hm with e2 | e2
            · rw [e2] at hn; exact hxb hn
            · exact hno e2
        by_cases h3 : x = y
        · rw [if_pos h3] at h
          exact step q h
        · rw [if_neg h3] at h
          rcases List.mem_cons.1 h with e | h
          · refine .inl ⟨x, List.mem_cons_self .., e.symm, fun hm => ?_⟩
            rcases List.mem_cons.1 hm with e2 | e2
            · exact h3 e2
            · exact hxb e2
          · exact step q h
  termination_by a b => a.length + b.length
theorem diff_put {t : List Nd} {p : List UInt8} {v : List Nd} (h : PutOk t p v) : ∀ q ∈ diffM t (outL t p v), withinL q p = true := fun q hq => by
  rcases diffM_mem h.tree.sorted (out_tree h).sorted q hq with ⟨n, hn, rfl, hno⟩ | ⟨n, hn, rfl, hno⟩
  · cases hw : withinL n.path p with
    | true => rfl
    | false => exact absurd ((mem_out t p v n).2 (.inl ⟨hn, hw⟩)) hno
  · rcases (mem_out t p v n).1 hn with ⟨a, _⟩ | ⟨m, hm, rfl⟩
    · exact absurd a hno
    · exact place_within (path_ne h.path) (h.all m hm)

/- taken away -/
theorem filter_two (t : List Nd) (f g : Nd → Bool) : (t.filter fun n => f n && g n).length + (t.filter fun n => f n && !g n).length ≤ t.length := by
  induction t with
  | nil => simp
  | cons x r ih =>
    simp only [List.filter_cons]
    cases f x <;> cases g x <;> simp <;> omega
theorem out_nil_len (t : List Nd) (p : List UInt8) : (outL t p []).length ≤ t.length := by
  unfold outL
  rw [List.map_nil, List.nil_append, List.length_append]
  exact filter_two t _ _
theorem take_ok {t : List Nd} (ht : Tree t) {p : List UInt8} (hp : pathL p = true) : PutOk t p [] :=
  ⟨ht, Val.nil, hp, fun h => absurd rfl h, by simp, Nat.le_trans (out_nil_len t p) ht.len⟩
theorem within_comp {n a b : List UInt8} (ha : a ≠ []) (hb : b ≠ []) (h1 : withinL n a = true) (h2 : withinL n b = true) : withinL a b = true ∨ withinL b a = true := by
  have hn := within_path h1
  obtain ⟨pa, ca⟩ := (within_parts hn ha).1 h1
  obtain ⟨pb, cb⟩ := (within_parts hn hb).1 h2
  rcases List.prefix_or_prefix_of_prefix ca cb with h | h
  · exact .inr ((within_parts pb ha).2 ⟨pa, h⟩)
  · exact .inl ((within_parts pa hb).2 ⟨pb, h⟩)
theorem at_none {t : List Nd} {p : List UInt8} (h0 : p ≠ []) (hp : pathL p = false) : atL t p = [] := by
  unfold atL
  by_cases ht : treeB t = true
  · rw [if_pos ht, if_neg h0, List.map_eq_nil_iff, List.filter_eq_nil_iff]
    intro n hn
    rw [within_noq (((tree_iff t).1 ht).path n hn) h0 hp]
    simp
  · rw [if_neg ht]
/-- A value put elsewhere, and taken away where it was. -/
theorem moved {t : List Nd} {src dst : List UInt8} {v : List Nd} (h : PutOk t dst v) (hs : pathL src = true) (h1 : withinL dst src = false) (h2 : withinL src dst = false) :
    PutOk (outL t dst v) src [] ∧ PutOk (outL t src []) dst v ∧ outL (outL t dst v) src [] = outL (outL t src []) dst v ∧ atL (outL (outL t dst v) src []) src = [] := by
  have hs0 := path_ne hs
  have hd0 := path_ne h.path
  have hA := out_tree h
  have hB := out_tree (take_ok h.tree hs)
  have ok1 := take_ok hA hs
  have hno : ∀ m ∈ v, withinL (placeN dst m).path src = false := fun m hm => by
    rw [Bool.eq_false_iff]
    intro hw
    rcases within_comp hd0 hs0 (place_within hd0 (h.all m hm)) hw with e | e
    · rw [e] at h1; cases h1
    · rw [e] at h2; cases h2
  have heq : outL (outL t dst v) src [] = outL (outL t src []) dst v := by
    refine sorted_ext (out_sorted hA hs List.Pairwise.nil (by simp)) (out_sorted hB h.path h.val.sorted h.all) fun n => ?_
    rw [mem_out, mem_out, mem_out, mem_out]
    constructor
    · rintro (⟨⟨a, b⟩ | ⟨m, hm, rfl⟩, c⟩ | ⟨m, hm, _⟩)
      · exact .inl ⟨.inl ⟨a, c⟩, b⟩
      · exact .inr ⟨m, hm, rfl⟩
      · simp at hm
    · rintro (⟨⟨a, b⟩ | ⟨m, hm, _⟩, c⟩ | ⟨m, hm, rfl⟩)
      · exact .inl ⟨.inl ⟨a, c⟩, b⟩
      · simp at hm
      · exact .inl ⟨.inr ⟨m, hm, rfl⟩, hno m hm⟩
  refine ⟨ok1, ⟨hB, h.val, h.path, fun hne => ?_, h.all, ?_⟩, heq, ?_⟩
  · rcases h.up hne with e | ⟨d, hd, e1, e2⟩
    · exact .inl e
    · by_cases hu : upL dst = []
      · exact .inl hu
      · refine .inr ⟨d, (mem_out _ _ _ _).2 (.inl ⟨hd, ?_⟩), e1, e2⟩
        rw [Bool.eq_false_iff]
        intro hw
        rw [e1] at hw
        rw [within_of_up h.path hs0 hu hw] at h1
        cases h1
  · rw [← heq]; exact Nat.le_trans (out_nil_len _ _) h.len
  · have hC := out_tree ok1
    rw [List.eq_nil_iff_forall_not_mem]
    intro n hn
    rcases (mem_out _ _ _ _).1 ((at_mem hC hs n).1 hn) with ⟨a, b⟩ | ⟨m, hm, _⟩
    · rw [place_within hs0 (hA.path _ a)] at b
      cases b
    · simp at hm

/- the names in a directory -/
def namesL (t : List Nd) (p : List UInt8) : List (List UInt8) := if treeB t = true ∧ dirB t p = true then (t.filter fun n => decide (parentL n.path = p)).map fun n => baseL n.path else []
theorem names_tree {t : List Nd} (ht : Tree t) {p : List UInt8} (hd : Dir t p) : namesL t p = (t.filter fun n => decide (upL n.path = p)).map fun n => lastL n.path := by
  unfold namesL
  rw [if_pos ⟨(tree_iff t).2 ht, (dir_iff ht.sorted p).2 hd⟩]
  have e1 : (t.filter fun n => decide (parentL n.path = p)) = t.filter fun n => decide (upL n.path = p) := List.filter_congr fun n hn => by
    rw [show parentL n.path = upL n.path by unfold parentL; rw [if_pos (ht.path n hn)]]
  rw [e1]
  refine List.map_congr_left fun n hn => ?_
  rw [List.mem_filter] at hn
  unfold baseL
  rw [if_pos (ht.path n hn.1)]
theorem names_no {t : List Nd} (ht : Tree t) {p : List UInt8} (hd : ¬ Dir t p) : namesL t p = [] := by
  unfold namesL
  rw [if_neg (fun h => hd ((dir_iff ht.sorted p).1 h.2))]
theorem none_below {t : List Nd} (ht : Tree t) {p : List UInt8} (hd : ¬ Dir t p) : (t.filter fun n => decide (upL n.path = p)) = [] := by
  rw [List.filter_eq_nil_iff]
  intro n hn h
  have h := of_decide_eq_true h
  exact hd (h ▸ ht.dir n hn)
theorem names_len {t : List Nd} (ht : Tree t) (p : List UInt8) : (namesL t p).length = (t.filter fun n => decide (upL n.path = p)).length := by
  by_cases hd : Dir t p
  · rw [names_tree ht hd, List.length_map]
  · rw [names_no ht hd, none_below ht hd]; rfl
/-- Each name, with its directory ahead of it, is there. -/
theorem names_there {t : List Nd} (ht : Tree t) {p x : List UInt8} (hx : x ∈ namesL t p) : ∃ n ∈ t, n.path = if p = [] then x else p ++ 47 :: x := by
  by_cases hd : Dir t p
  · rw [names_tree ht hd, List.mem_map] at hx
    obtain ⟨n, hn, rfl⟩ := hx
    rw [List.mem_filter] at hn
    have hu := of_decide_eq_true hn.2
    have h := up_last n.path (ht.path n hn.1)
    rw [hu] at h
    exact ⟨n, hn.1, h⟩
  · rw [names_no ht hd] at hx; simp at hx
theorem names_order {t : List Nd} (ht : Tree t) (p : List UInt8) : (namesL t p).Pairwise fun a b => cmpL a b < 0 := by
  by_cases hd : Dir t p
  · rw [names_tree ht hd, List.pairwise_map]
    refine List.Pairwise.imp_of_mem (fun {a b} ha hb hlt => ?_) (sorted_filter ht.sorted _)
    rw [List.mem_filter] at ha hb
    have ha2 := of_decide_eq_true ha.2
    have hb2 := of_decide_eq_true hb.2
    have la := up_last a.path (ht.path a ha.1)
    have lb := up_last b.path (ht.path b hb.1)
    rw [ha2] at la
    rw [hb2] at lb
    have key : ordL a.path b.path = ordL (lastL a.path) (lastL b.path) := by
      by_cases h0 : p = []
      · rw [if_pos h0] at la lb
        rw [← la, ← lb]
      · rw [if_neg h0] at la lb
        conv => lhs; rw [la, lb]
        rw [ordL_append]
        show ordL ([47] ++ _) ([47] ++ _) = _
        exact ordL_append [47] _ _
    unfold lt at hlt
    rw [key] at hlt
    by_cases he : lastL a.path = lastL b.path
    · rw [he] at hlt; exact absurd hlt (ord_irr _)
    · have := ord_parts (lastL a.path) (lastL b.path) [] [] (last_no _) (last_no _) he (.inl rfl) (.inl rfl)
      rw [List.append_nil, List.append_nil] at this
      rw [← this]
      exact hlt
  · rw [names_no ht hd]; exact List.Pairwise.nil
/- each node is told once -/
theorem sum_zero (l : List Nd) : (l.map fun _ => 0).sum = 0 := by
  induction l with
  | nil => rfl
  | cons x l ih => simp [ih]
theorem sum_filter (D : List Nd) (r : Nd → Nd → Bool) : ∀ N : List Nd, (D.map fun d => (N.filter (r d)).length).sum = (N.map fun n => (D.filter fun d => r d n).length).sum
  | [] => by simpa using sum_zero D
  | n :: N => by
    rw [List.map_cons, List.sum_cons, ← sum_filter D r N]
    induction D with
    | nil => rfl
    | cons d D ih =>
      simp only [List.map_cons, List.sum_cons, List.filter_cons] at ih ⊢
      cases r d n
      · simp only [Bool.false_eq_true, if_false]; omega
      · simp only [if_true, List.length_cons]; omega
theorem one_of_path {t : List Nd} (hs : Sorted t) {d : Nd} (hd : d ∈ t) : (t.filter fun n => decide (n.path = d.path)) = [d] := by
  refine sorted_ext (sorted_filter hs _) (List.pairwise_singleton _ _) fun n => ?_
  rw [List.mem_filter, List.mem_singleton, decide_eq_true_eq]
  constructor
  · rintro ⟨a, b⟩; exact sorted_one hs a hd b
  · rintro rfl; exact ⟨hd, rfl⟩
theorem names_count {t : List Nd} (ht : Tree t) : ((root :: t).map fun d => (namesL t d.path).length).sum = t.length := by
  have hrt : Sorted (root :: t) := List.Pairwise.cons (fun n hn => nil_lt (path_ne (ht.path n hn))) ht.sorted
  have e1 : ((root :: t).map fun d => (namesL t d.path).length) = (root :: t).map fun d => (t.filter fun n => decide (upL n.path = d.path)).length := List.map_congr_left fun d _ => names_len ht d.path
  rw [e1, sum_filter (root :: t) (fun d n => decide (upL n.path = d.path)) t]
  have e2 : (t.map fun n => ((root :: t).filter fun d => decide (upL n.path = d.path)).length) = t.map fun _ => 1 := List.map_congr_left fun n hn => by
    obtain ⟨d, hd, e⟩ : ∃ d ∈ root :: t, d.path = upL n.path := by
      rcases ht.dir n hn with e | ⟨d, hd, e, _⟩
      · exact ⟨root, List.mem_cons_self .., e.symm⟩
      · exact ⟨d, List.mem_cons_of_mem _ hd, e⟩
    have := one_of_path hrt hd
    rw [e] at this
    have h2 : ((root :: t).filter fun d => decide (upL n.path = d.path)) = (root :: t).filter fun d => decide (d.path = upL n.path) := List.filter_congr fun x _ => by
      by_cases h : upL n.path = x.path
      · rw [decide_eq_true h, decide_eq_true h.symm]
      · rw [decide_eq_false h, decide_eq_false (Ne.symm h)]
    rw [h2, this]
    rfl
  rw [e2]
  clear e1 e2 hrt ht
  induction t with
  | nil => rfl
  | cons x t ih => simp [ih]; omega
end Go.Proofs.YtfkaackhikbbkaaGreatDoor.TP
end

section
/- Layer 6 over lists: the rounds of the document's Put (no program is read here). -/
namespace Go.Proofs.YtfkaackhikbbkaaGreatDoor.TP
open Go NP

/-- Ahead of the place, and not within it. -/
def lowN (p : List UInt8) (n : Nd) : Bool := !withinL n.path p && decide (ordL n.path p < 0)
/-- Behind the place, and not within it. -/
def highN (p : List UInt8) (n : Nd) : Bool := !withinL n.path p && !decide (ordL n.path p < 0)
/-- What is written after i rounds; b says that the value has been written. -/
def outK (t : List Nd) (p : List UInt8) (v : List Nd) (i : Nat) (b : Bool) : List Nd :=
  ((t.take i).filter (lowN p)) ++ (if b = true then v.map (placeN p) ++ (t.take i).filter (highN p) else [])
theorem outK_zero (t : List Nd) (p : List UInt8) (v : List Nd) : outK t p v 0 false = [] := rfl
theorem outK_end {t : List Nd} {p : List UInt8} {v : List Nd} {i : Nat} (h : t.length ≤ i) : outK t p v i true = outL t p v := by
  unfold outK outL
  rw [List.take_of_length_le h, if_pos rfl]
  rfl
theorem take_snoc {t : List Nd} {i : Nat} {x : Nd} (hx : t[i]? = some x) (f : Nd → Bool) : (t.take (i + 1)).filter f = (t.take i).filter f ++ (if f x = true then [x] else []) := by
  rw [List.take_add_one, hx, Option.toList_some, List.filter_append]
  cases h : f x <;> simp [h]
theorem outK_in {t : List Nd} {p : List UInt8} {v : List Nd} {i : Nat} {x : Nd} {b : Bool} (hx : t[i]? = some x) (hw : withinL x.path p = true) : outK t p v (i + 1) b = outK t p v i b := by
  unfold outK
  have h1 : lowN p x = false := by unfold lowN; rw [hw]; rfl
  have h2 : highN p x = false := by unfold highN; rw [hw]; rfl
  rw [take_snoc hx, take_snoc hx, h1, h2]
  simp
theorem outK_low {t : List Nd} {p : List UInt8} {v : List Nd} {i : Nat} {x : Nd} (hx : t[i]? = some x) (hw : withinL x.path p = false) (ho : ordL x.path p < 0) : outK t p v (i + 1) false = outK t p v i false ++ [x] := by
  unfold outK
  have h1 : lowN p x = true := by unfold lowN; rw [hw]; simp [ho]
  rw [take_snoc hx, h1]
  simp
theorem outK_high {t : List Nd} {p : List UInt8} {v : List Nd} {i : Nat} {x : Nd} (hx : t[i]? = some x) (hw : withinL x.path p = false) (ho : ¬ ordL x.path p < 0) : outK t p v (i + 1) true = outK t p v i true ++ [x] := by
  unfold outK
  have h1 : lowN p x = false := by unfold lowN; rw [hw]; simp [ho]
  have h2 : highN p x = true := by unfold highN; rw [hw]; simp [ho]
  rw [take_snoc hx, take_snoc hx, h1, h2]
  simp
/-- The first i lie ahead of the place. -/
def Ahead (t : List Nd) (p : List UInt8) (i : Nat) : Prop := ∀ j x, j < i → t[j]? = some x → ordL x.path p < 0
/-- From i on, none lies ahead of it. -/
def Behind (t : List Nd) (p : List UInt8) (i : Nat) : Prop := ∀ j x, i ≤ j → t[j]? = some x → ¬ ordL x.path p < 0
theorem Ahead.zero (t : List Nd) (p : List UInt8) : Ahead t p 0 := fun j x h => absurd h (Nat.not_lt_zero _)
theorem Ahead.succ {t : List Nd} {p : List UInt8} {i : Nat} {x : Nd} (h : Ahead t p i) (hx : t[i]? = some x) (ho : ordL x.path p < 0) : Ahead t p (i + 1) := fun j y hj hy => by
  rcases Nat.lt_or_ge j i with e | e
  · exact h j y e hy
  · have : j = i := by omega
    subst this
    rw [hx] at hy
    cases hy
    exact ho
theorem Behind.succ {t : List Nd} {p : List UInt8} {i : Nat} (h : Behind t p i) : Behind t p (i + 1) := fun j x hj hx => h j x (by omega) hx
theorem Behind.last {t : List Nd} {p : List UInt8} {i : Nat} (h : t.length ≤ i) : Behind t p i := fun j x hj hx => by
  rw [List.getElem?_eq_none (by omega)] at hx
  cases hx
theorem Behind.of {t : List Nd} {p : List UInt8} {i : Nat} {x : Nd} (hs : Sorted t) (hx : t[i]? = some x) (ho : ¬ ordL x.path p < 0) : Behind t p i := fun j y hj hy hc => by
  rcases Nat.lt_or_ge i j with e | e
  · obtain ⟨hi', rfl⟩ := List.getElem?_eq_some_iff.1 hx
    obtain ⟨hj', rfl⟩ := List.getElem?_eq_some_iff.1 hy
    have h1 : lt t[i] t[j] := List.pairwise_iff_getElem.1 hs i j hi' hj' e
    exact ho (ord_lt h1 hc)
  · have : j = i := by omega
    subst this
    rw [hx] at hy
    cases hy
    exact ho hc
/-- The value is written. -/
theorem outK_flip {t : List Nd} {p : List UInt8} {v : List Nd} {i : Nat} (h : Ahead t p i) : outK t p v i true = outK t p v i false ++ v.map (placeN p) := by
  unfold outK
  have e : (t.take i).filter (highN p) = [] := by
    rw [List.filter_eq_nil_iff]
    intro x hx
    obtain ⟨j, hj⟩ := List.mem_iff_getElem?.1 hx
    rw [List.getElem?_take] at hj
    split at hj
    · rename_i hji
      have := h j x hji hj
      unfold highN
      simp [this]
    · cases hj
  rw [e, if_pos rfl, if_neg (by simp), List.append_nil, List.append_nil]
theorem outK_len (t : List Nd) (p : List UInt8) (v : List Nd) (i : Nat) (b : Bool) : (outK t p v i b).length ≤ 2 * t.length + v.length := by
  unfold outK
  have h1 := List.length_filter_le (lowN p) (t.take i)
  have h2 := List.length_filter_le (highN p) (t.take i)
  have h3 : (t.take i).length ≤ t.length := by rw [List.length_take]; omega
  cases b
  · rw [if_neg (by simp), List.append_nil]
    omega
  · rw [if_pos rfl, List.length_append, List.length_append, List.length_map]
    omega
/-- What stands first in a value has no path; what follows has one. -/
theorem val_at {v : List Nd} (h : rightV v = true) {k : Nat} {x : Nd} (hx : v[k]? = some x) : (k = 0 → x.path = []) ∧ (k ≠ 0 → x.path ≠ []) := by
  cases v with
  | nil => simp at hx
  | cons a r =>
    unfold rightV at h
    simp only [Bool.and_eq_true, Bool.or_eq_true, decide_eq_true_eq] at h
    obtain ⟨⟨⟨h1, _⟩, _⟩, h2⟩ := h
    cases k with
    | zero =>
      simp at hx
      subst hx
      exact ⟨fun _ => h1, fun h => absurd rfl h⟩
    | succ k =>
      rw [List.getElem?_cons_succ] at hx
      refine ⟨fun h => by omega, fun _ => ?_⟩
      rcases h2 with h2 | ⟨_, h2⟩
      · rw [h2] at hx; simp at hx
      · exact path_ne (((tree_iff r).1 h2).path x (List.mem_of_getElem? hx))
theorem val_len {v : List Nd} (h : rightV v = true) : v.length ≤ 1000 := by
  cases v with
  | nil => simp
  | cons a r =>
    unfold rightV at h
    simp only [Bool.and_eq_true, Bool.or_eq_true, decide_eq_true_eq] at h
    rw [List.length_cons]
    omega
/-- What is written of the value after k rounds. -/
def valK (p : List UInt8) (v : List Nd) (k : Nat) : List Nd := (v.take k).map (placeN p)
theorem valK_succ {p : List UInt8} {v : List Nd} {k : Nat} {x : Nd} (hx : v[k]? = some x) : valK p v (k + 1) = valK p v k ++ [placeN p x] := by
  unfold valK
  rw [List.take_add_one, hx, Option.toList_some, List.map_append, List.map_singleton]
theorem valK_end {p : List UInt8} {v : List Nd} {k : Nat} (h : v.length ≤ k) : valK p v k = v.map (placeN p) := by
  unfold valK
  rw [List.take_of_length_le h]
/-- The first k keep to paths. -/
def PathsK (p : List UInt8) (v : List Nd) (k : Nat) : Prop := ∀ j x, j < k → v[j]? = some x → pathL (place p x.path) = true
theorem PathsK.zero (p : List UInt8) (v : List Nd) : PathsK p v 0 := fun j x h => absurd h (Nat.not_lt_zero _)
theorem PathsK.succ {p : List UInt8} {v : List Nd} {k : Nat} {x : Nd} (h : PathsK p v k) (hx : v[k]? = some x) (ho : pathL (place p x.path) = true) : PathsK p v (k + 1) := fun j y hj hy => by
  rcases Nat.lt_or_ge j k with e | e
  · exact h j y e hy
  · have : j = k := by omega
    subst this
    rw [hx] at hy
    cases hy
    exact ho
theorem paths_all {p : List UInt8} {v : List Nd} {k : Nat} (h : PathsK p v k) (hk : v.length ≤ k) : (v.all fun n => pathL (place p n.path)) = true := by
  rw [List.all_eq_true]
  intro x hx
  obtain ⟨j, hj⟩ := List.mem_iff_getElem?.1 hx
  have := (List.getElem?_eq_some_iff.1 hj).1
  exact h j x (by omega) hj
theorem paths_no {p : List UInt8} {v : List Nd} {k : Nat} {x : Nd} (hx : v[k]? = some x) (ho : pathL (place p x.path) = false) : (v.all fun n => pathL (place p n.path)) = false := by
  rw [← Bool.not_eq_true, List.all_eq_true]
  intro h
  have := h x (List.mem_of_getElem? hx)
  rw [ho] at this
  cases this
end Go.Proofs.YtfkaackhikbbkaaGreatDoor.TP
end

section
/- Layer 6 over lists: where a path stands in a tree in the order of paths, and what lies within it (no program is read here). -/
namespace Go.Proofs.YtfkaackhikbbkaaGreatDoor.TP
open Go NP

theorem ord_swap_lt {a b : List UInt8} : ordL a b < 0 ↔ 0 < ordL b a := by
  have := ordL_swap a b
  omega
theorem sorted_at {t : List Nd} (hs : Sorted t) {i j : Nat} {x y : Nd} (hx : t[i]? = some x) (hy : t[j]? = some y) (h : i < j) : ordL x.path y.path < 0 := by
  obtain ⟨hi, rfl⟩ := List.getElem?_eq_some_iff.1 hx
  obtain ⟨hj, rfl⟩ := List.getElem?_eq_some_iff.1 hy
  exact List.pairwise_iff_getElem.1 hs i j hi hj h
/-- k is where the path stands, or would stand. -/
structure PlaceAt (t : List Nd) (p : List UInt8) (k : Nat) : Prop where
  le : k ≤ t.length
  ahead : Ahead t p k
  behind : Behind t p k
theorem Ahead.of {t : List Nd} {p : List UInt8} {i : Nat} {x : Nd} (hs : Sorted t) (hx : t[i]? = some x) (ho : ordL x.path p < 0) : Ahead t p (i + 1) := fun j y hj hy => by
  rcases Nat.lt_or_ge j i with e | e
  · exact ord_lt (sorted_at hs hy hx e) ho
  · have : j = i := by omega
    subst this
    rw [hx] at hy
    cases hy
    exact ho
theorem place_uniq {t : List Nd} {p : List UInt8} {i j : Nat} (h : PlaceAt t p i) (k : PlaceAt t p j) : i = j := by
  rcases Nat.lt_trichotomy i j with e | e | e
  · have hi : i < t.length := by have := k.le; omega
    exact absurd (k.ahead i _ e (List.getElem?_eq_getElem hi)) (h.behind i _ (Nat.le_refl _) (List.getElem?_eq_getElem hi))
  · exact e
  · have hi : j < t.length := by have := h.le; omega
    exact absurd (h.ahead j _ e (List.getElem?_eq_getElem hi)) (k.behind j _ (Nat.le_refl _) (List.getElem?_eq_getElem hi))
theorem place_yes {t : List Nd} {p : List UInt8} {k : Nat} {x : Nd} (hs : Sorted t) (hx : t[k]? = some x) (he : x.path = p) : findN t p = some x := by
  rw [← he]
  exact find_of hs (List.mem_of_getElem? hx)
theorem place_no {t : List Nd} {p : List UInt8} {k : Nat} (hs : Sorted t) (h : PlaceAt t p k) (hno : ∀ x, t[k]? = some x → x.path ≠ p) : findN t p = none := by
  unfold findN
  rw [List.find?_eq_none]
  intro n hn
  obtain ⟨j, hj, e⟩ := List.getElem_of_mem hn
  have hj' : t[j]? = some n := by rw [← e]; exact List.getElem?_eq_getElem _
  intro he
  have he := of_decide_eq_true he
  have hnl : ¬ ordL n.path p < 0 := by rw [he]; exact ord_irr p
  rcases Nat.lt_trichotomy j k with e | e | e
  · exact hnl (h.ahead j n e hj')
  · rw [e] at hj'; exact hno n hj' he
  · have hk : k < t.length := by omega
    have hx := List.getElem?_eq_getElem hk
    have h1 := sorted_at hs hx hj' e
    rw [he] at h1
    exact h.behind k _ (Nat.le_refl _) hx h1
/-- From i to j lies what is within the path. -/
structure Cut (t : List Nd) (p : List UInt8) (i j : Nat) : Prop where
  at_ : PlaceAt t p i
  ij : i ≤ j
  le : j ≤ t.length
  yes : ∀ m x, i ≤ m → m < j → t[m]? = some x → withinL x.path p = true
  no : ∀ m x, j ≤ m → t[m]? = some x → withinL x.path p = false
theorem within_nil {n : List UInt8} (hn : pathL n = true) : withinL n [] = true := by
  unfold withinL Lib.hasPrefix restOk
  rw [hn]
  simp
theorem within_q {n p : List UInt8} (hn : pathL n = true) (hp : p ≠ []) (h : withinL n p = true) : pathL p = true := by
  cases hq : pathL p with
  | true => rfl
  | false => rw [within_noq hn hp hq] at h; cases h
/-- Behind the place, what stands ahead of one that is within the path is within it too. -/
theorem within_mono {t : List Nd} {p : List UInt8} {i a b : Nat} {x y : Nd} (hs : Sorted t) (hp : ∀ n ∈ t, pathL n.path = true) (h : PlaceAt t p i) (ha : i ≤ a) (hab : a ≤ b) (hx : t[a]? = some x) (hy : t[b]? = some y) (hw : withinL y.path p = true) : withinL x.path p = true := by
  have hxp := hp x (List.mem_of_getElem? hx)
  have hyp := hp y (List.mem_of_getElem? hy)
  by_cases h0 : p = []
  · rw [h0]; exact within_nil hxp
  · have hpp := within_q hyp h0 hw
    have hno := h.behind a x ha hx
    rcases ord_tri x.path p with e | e | e
    · exact absurd e hno
    · rw [e]; exact within_self hpp
    · rcases Nat.lt_or_ge a b with hlt | hge
      · exact between hxp hw e (sorted_at hs hx hy hlt)
      · have : a = b := by omega
        subst this
        rw [hx] at hy
        cases hy
        exact hw
theorem low_not_within {n p : List UInt8} (hn : pathL n = true) (h : ordL n p < 0) : withinL n p = false := by
  rw [Bool.eq_false_iff]
  intro hw
  by_cases h0 : p = []
  · rw [h0] at h
    exact ord_neg h (nil_lt (path_ne hn))
  · have := ord_below h0 hw
    have := ordL_swap n p
    omega
theorem mem_take {t : List Nd} {i : Nat} {n : Nd} (h : n ∈ t.take i) : ∃ m, m < i ∧ t[m]? = some n := by
  obtain ⟨m, hm, e⟩ := List.getElem_of_mem h
  rw [List.length_take] at hm
  refine ⟨m, by omega, ?_⟩
  rw [← e, List.getElem_take]
  exact List.getElem?_eq_getElem _
theorem mem_drop {t : List Nd} {j : Nat} {n : Nd} (h : n ∈ t.drop j) : ∃ m, j ≤ m ∧ t[m]? = some n := by
  obtain ⟨m, hm, e⟩ := List.getElem_of_mem h
  rw [List.length_drop] at hm
  refine ⟨j + m, by omega, ?_⟩
  rw [← e, List.getElem_drop]
  exact List.getElem?_eq_getElem _
theorem mem_mid {t : List Nd} {i j : Nat} {n : Nd} (h : n ∈ (t.take j).drop i) : ∃ m, i ≤ m ∧ m < j ∧ t[m]? = some n := by
  obtain ⟨m, hm, e⟩ := List.getElem_of_mem h
  rw [List.length_drop, List.length_take] at hm
  refine ⟨i + m, by omega, by omega, ?_⟩
  rw [← e, List.getElem_drop, List.getElem_take]
  exact List.getElem?_eq_getElem _
theorem cut_three (t : List Nd) {i j : Nat} (h : i ≤ j) : t = t.take i ++ ((t.take j).drop i ++ t.drop j) := by
  have e : (t.take j).take i = t.take i := by rw [List.take_take, Nat.min_eq_left h]
  rw [← List.append_assoc, ← e, List.take_append_drop, List.take_append_drop]
theorem filter_all {t : List Nd} {f : Nd → Bool} (h : ∀ n ∈ t, f n = true) : t.filter f = t := List.filter_eq_self.2 h
theorem filter_none {t : List Nd} {f : Nd → Bool} (h : ∀ n ∈ t, f n = false) : t.filter f = [] := List.filter_eq_nil_iff.2 fun n hn => by rw [h n hn]; simp
section
variable {t : List Nd} {p : List UInt8} {i j : Nat}
theorem Cut.a (hp : ∀ n ∈ t, pathL n.path = true) (h : Cut t p i j) : ∀ n ∈ t.take i, ordL n.path p < 0 ∧ withinL n.path p = false := fun n hn => by
  obtain ⟨m, hm, e⟩ := mem_take hn
  have := h.at_.ahead m n hm e
  exact ⟨this, low_not_within (hp n (List.mem_of_getElem? e)) this⟩
theorem Cut.b (h : Cut t p i j) : ∀ n ∈ (t.take j).drop i, ¬ ordL n.path p < 0 ∧ withinL n.path p = true := fun n hn => by
  obtain ⟨m, h1, h2, e⟩ := mem_mid hn
  exact ⟨h.at_.behind m n h1 e, h.yes m n h1 h2 e⟩
theorem Cut.c (h : Cut t p i j) : ∀ n ∈ t.drop j, ¬ ordL n.path p < 0 ∧ withinL n.path p = false := fun n hn => by
  obtain ⟨m, h1, e⟩ := mem_drop hn
  exact ⟨h.at_.behind m n (by have := h.ij; omega) e, h.no m n h1 e⟩
theorem Cut.filter (hp : ∀ n ∈ t, pathL n.path = true) (h : Cut t p i j) : (t.filter fun n => withinL n.path p) = (t.take j).drop i := by
  conv => lhs; rw [cut_three t h.ij]
  rw [List.filter_append, List.filter_append, filter_none (fun n hn => (h.a hp n hn).2), filter_all (fun n hn => (h.b n hn).2), filter_none (fun n hn => (h.c n hn).2)]
  simp
theorem Cut.low (hp : ∀ n ∈ t, pathL n.path = true) (h : Cut t p i j) : t.filter (lowN p) = t.take i := by
  conv => lhs; rw [cut_three t h.ij]
  rw [List.filter_append, List.filter_append, filter_all, filter_none, filter_none]
  · simp
  · intro n hn; unfold lowN; rw [decide_eq_false (h.c n hn).1]; simp
  · intro n hn; unfold lowN; rw [decide_eq_false (h.b n hn).1]; simp
  · intro n hn; unfold lowN; rw [(h.a hp n hn).2, decide_eq_true (h.a hp n hn).1]; rfl
theorem Cut.high (hp : ∀ n ∈ t, pathL n.path = true) (h : Cut t p i j) : t.filter (highN p) = t.drop j := by
  conv => lhs; rw [cut_three t h.ij]
  rw [List.filter_append, List.filter_append, filter_none, filter_none, filter_all]
  · simp
  · intro n hn; unfold highN; rw [(h.c n hn).2, decide_eq_false (h.c n hn).1]; rfl
  · intro n hn; unfold highN; rw [(h.b n hn).2]; simp
  · intro n hn; unfold highN; rw [decide_eq_true (h.a hp n hn).1]; simp
theorem Cut.out (hp : ∀ n ∈ t, pathL n.path = true) (h : Cut t p i j) (v : List Nd) : outL t p v = t.take i ++ (v.map (placeN p) ++ t.drop j) := by
  rw [← h.low hp, ← h.high hp]
  rfl
theorem Cut.len (hp : ∀ n ∈ t, pathL n.path = true) (h : Cut t p i j) (v : List Nd) : (outL t p v).length = t.length - (j - i) + v.length := by
  have := h.ij
  have := h.le
  rw [h.out hp, List.length_append, List.length_append, List.length_map, List.length_take, List.length_drop]
  omega
theorem Cut.names (ht : Tree t) (h : Cut t p i j) : namesL t p = (((t.take j).drop i).filter fun n => decide (parentL n.path = p)).map fun n => baseL n.path := by
  have key : ∀ n ∈ t, withinL n.path p = false → decide (parentL n.path = p) = false := fun n hn hw => by
    rw [decide_eq_false_iff_not]
    intro e
    have hnp := ht.path n hn
    rw [show parentL n.path = upL n.path by unfold parentL; rw [if_pos hnp]] at e
    by_cases h0 : p = []
    · rw [h0, within_nil hnp] at hw; cases hw
    · rw [← e] at h0
      rw [← e, (up_path hnp h0).2] at hw; cases hw
  have e1 : (t.filter fun n => decide (parentL n.path = p)) = ((t.take j).drop i).filter fun n => decide (parentL n.path = p) := by
    conv => lhs; rw [cut_three t h.ij]
    rw [List.filter_append, List.filter_append, filter_none (fun n hn => key n (List.mem_of_mem_take hn) (h.a ht.path n hn).2), filter_none (t := t.drop j) (fun n hn => key n (List.mem_of_mem_drop hn) (h.c n hn).2)]
    simp
  rw [← e1]
  by_cases hd : Dir t p
  · unfold namesL
    rw [if_pos ⟨(tree_iff t).2 ht, (dir_iff ht.sorted p).2 hd⟩]
  · rw [names_no ht hd]
    have e2 : (t.filter fun n => decide (parentL n.path = p)) = t.filter fun n => decide (upL n.path = p) := List.filter_congr fun n hn => by
      rw [show parentL n.path = upL n.path by unfold parentL; rw [if_pos (ht.path n hn)]]
    rw [e2, none_below ht hd]
    rfl
theorem Cut.all (hp : ∀ n ∈ t, pathL n.path = true) (h : Cut t [] i j) : (t.take j).drop i = t := by
  rw [← h.filter hp]
  exact filter_all fun n hn => within_nil (hp n hn)
end
/-- A node's path as the program counts it from p. -/
def trimN (p : List UInt8) (n : Nd) : Nd := { n with path := Lib.trimPrefix (Lib.trimPrefix n.path p) [47] }
theorem trim_no {l : List UInt8} (h : l.head? ≠ some 47) : Lib.trimPrefix l [47] = l := by
  unfold Lib.trimPrefix Lib.hasPrefix
  cases l with
  | nil => rfl
  | cons x r =>
    rw [if_neg]
    intro e
    simp [List.isPrefixOf] at e
    exact h (by simp [e])
theorem path_head {n : List UInt8} (h : pathL n = true) : n.head? ≠ some 47 := by
  cases n with
  | nil => simp
  | cons x r =>
    intro e
    simp at e
    subst e
    have := path_pre (q := []) (r := r) h
    rw [path_nil] at this
    cases this
theorem trim_nil {n : Nd} (h : pathL n.path = true) : trimN [] n = n := by
  unfold trimN
  rw [show Lib.trimPrefix n.path [] = n.path by unfold Lib.trimPrefix; simp [Lib.hasPrefix], trim_no (path_head h)]
theorem trim_pre (p r : List UInt8) : Lib.trimPrefix (p ++ r) p = r := by
  unfold Lib.trimPrefix Lib.hasPrefix
  rw [if_pos (List.isPrefixOf_iff_prefix.2 ⟨r, rfl⟩), List.drop_left]
theorem trim_cut {n : Nd} {p : List UInt8} (hn : pathL n.path = true) (hp : p ≠ []) (h : withinL n.path p = true) : trimN p n = cutN p n := by
  obtain ⟨q, e⟩ := (within_iff hn hp).1 h
  unfold trimN cutN
  rw [e]
  by_cases hq : q = []
  · rw [hq, place_nil, if_pos rfl]
    congr 1
    have := trim_pre p []
    rw [List.append_nil] at this
    rw [this]
    rfl
  · rw [place_ne p hq, if_neg]
    · congr 1
      rw [trim_pre]
      have := trim_pre [47] q
      rw [show [47] ++ q = 47 :: q from rfl] at this
      rw [this]
      rw [show p ++ 47 :: q = (p ++ [47]) ++ q by simp, show p.length + 1 = (p ++ [47]).length by simp, List.drop_left]
    · intro e2
      have := congrArg List.length e2
      simp at this
/-- What the program's At gathers. -/
theorem Cut.at {t : List Nd} {p : List UInt8} {i j : Nat} (ht : Tree t) (h : Cut t p i j) : atL t p = (if p = [] then [root] else []) ++ ((t.take j).drop i).map (trimN p) := by
  unfold atL
  rw [if_pos ((tree_iff t).2 ht)]
  by_cases h0 : p = []
  · subst h0
    rw [if_pos rfl, if_pos rfl, h.all ht.path]
    have : t.map (trimN []) = t := by
      conv => rhs; rw [← List.map_id t]
      exact List.map_congr_left fun n hn => trim_nil (ht.path n hn)
    rw [this]
    rfl
  · rw [if_neg h0, if_neg h0, h.filter ht.path, List.nil_append]
    refine List.map_congr_left fun n hn => ?_
    obtain ⟨m, _, _, e⟩ := mem_mid hn
    exact (trim_cut (ht.path n (List.mem_of_getElem? e)) h0 (h.b n hn).2).symm
/-- A node's path as the program counts it from the root. -/
def underN (p : List UInt8) (n : Nd) : Nd := { n with path := Lib.trimSuffix (p ++ 47 :: n.path) [47] }
theorem suffix_snoc (l : List UInt8) : Lib.trimSuffix (l ++ [47]) [47] = l := by
  unfold Lib.trimSuffix Lib.hasSuffix
  rw [if_pos (List.isSuffixOf_iff_suffix.2 ⟨l, rfl⟩)]
  simp
theorem suffix_no {l : List UInt8} (h : l.getLast? ≠ some 47) : Lib.trimSuffix l [47] = l := by
  unfold Lib.trimSuffix Lib.hasSuffix
  rw [if_neg]
  intro e
  obtain ⟨r, e⟩ := List.isSuffixOf_iff_suffix.1 e
  exact h (by rw [← e]; simp)
theorem path_last {n : List UInt8} (h : pathL n = true) : n.getLast? ≠ some 47 := by
  intro e
  obtain ⟨r, rfl⟩ := List.getLast?_eq_some_iff.1 e
  exact path_tail_ne (p := r) (r := []) h rfl
theorem under_place {p : List UInt8} {n : Nd} (h : n.path = [] ∨ pathL n.path = true) : underN p n = placeN p n := by
  unfold underN placeN
  congr 1
  rcases h with h | h
  · rw [h, place_nil]
    exact suffix_snoc p
  · rw [place_ne p (path_ne h)]
    refine suffix_no ?_
    have := path_last h
    rw [List.getLast?_append]
    intro e
    apply this
    have hne := path_ne h
    obtain ⟨x, r, hx⟩ := List.exists_cons_of_ne_nil hne
    rw [hx] at e ⊢
    simpa using e
theorem under_all {p : List UInt8} {v : List Nd} (h : rightV v = true) : v.map (underN p) = v.map (placeN p) := List.map_congr_left fun n hn => under_place (((val_iff v).1 h).path n hn)
/- step by step -/
def goesB (l : List Nd) (p : List UInt8) : Bool := (match l.getLast? with | none => true | some y => decide (ordL y.path p < 0)) && dirB l (parentL p)
theorem sorted_pre {a b : List Nd} (h : Sorted (a ++ b)) : Sorted a := (List.pairwise_append.1 h).1
theorem tree_prefix {a b : List Nd} (h : Tree (a ++ b)) : Tree a := by
  refine ⟨?_, sorted_pre h.sorted, fun n hn => h.path n (List.mem_append_left _ hn), fun n hn => h.right n (List.mem_append_left _ hn), fun n hn => ?_⟩
  · have := h.len
    rw [List.length_append] at this
    omega
  · rcases h.dir n (List.mem_append_left _ hn) with e | ⟨d, hd, e, k⟩
    · exact .inl e
    · rcases List.mem_append.1 hd with hd | hd
      · exact .inr ⟨d, hd, e, k⟩
      · have h1 : ordL n.path d.path < 0 := (List.pairwise_append.1 h.sorted).2.2 n hn d hd
        have h2 := up_lt (h.path n (List.mem_append_left _ hn))
        rw [e] at h1
        exact absurd h1 (ord_neg h2)
theorem tree_take {t : List Nd} (h : treeB t = true) (k : Nat) : treeB (t.take k) = true := by
  have := (tree_iff t).1 h
  rw [← List.take_append_drop k t] at this
  exact (tree_iff _).2 (tree_prefix this)
theorem sorted_snoc {l : List Nd} {x : Nd} (hl : Sorted l) : Sorted (l ++ [x]) ↔ (match l.getLast? with | none => true | some y => decide (ordL y.path x.path < 0)) = true := by
  rcases List.eq_nil_or_concat l with rfl | ⟨r, y, rfl⟩
  · simp [Sorted]
  · rw [List.concat_eq_append] at hl ⊢
    rw [List.getLast?_append, List.getLast?_singleton]
    simp only [Option.some_or, decide_eq_true_eq]
    have hl' := hl
    unfold Sorted at hl ⊢
    rw [List.pairwise_append]
    constructor
    · rintro ⟨_, _, h⟩; exact h y (by simp) x (by simp)
    · intro h
      refine ⟨hl', List.pairwise_singleton _ _, fun n hn m hm => ?_⟩
      rw [List.mem_singleton] at hm
      subst hm
      rcases List.mem_append.1 hn with hn | hn
      · exact ord_lt ((List.pairwise_append.1 hl).2.2 n hn y (by simp)) h
      · rw [List.mem_singleton] at hn; subst hn; exact h
theorem tree_snoc {l : List Nd} {x : Nd} (hl : treeB l = true) (hm : l.length < 1000) : treeB (l ++ [x]) = (pathL x.path && rightB x && goesB l x.path) := by
  have ht := (tree_iff l).1 hl
  rw [Bool.eq_iff_iff, tree_iff, Bool.and_eq_true, Bool.and_eq_true]
  unfold goesB
  rw [Bool.and_eq_true, ← sorted_snoc ht.sorted]
  constructor
  · intro h
    have hxp := h.path x (by simp)
    refine ⟨⟨hxp, h.right x (by simp)⟩, h.sorted, ?_⟩
    rw [show parentL x.path = upL x.path by unfold parentL; rw [if_pos hxp]]
    refine (dir_iff ht.sorted _).2 ?_
    rcases h.dir x (by simp) with e | ⟨d, hd, e, k⟩
    · exact .inl e
    · rcases List.mem_append.1 hd with hd | hd
      · exact .inr ⟨d, hd, e, k⟩
      · rw [List.mem_singleton] at hd
        subst hd
        have := up_lt hxp
        rw [← e] at this
        exact absurd this (ord_irr _)
  · rintro ⟨⟨h1, h2⟩, h3, h4⟩
    rw [show parentL x.path = upL x.path by unfold parentL; rw [if_pos h1]] at h4
    have h5 := (dir_iff ht.sorted _).1 h4
    have up : ∀ q, Dir l q → Dir (l ++ [x]) q := fun q hq => by
      rcases hq with e | ⟨d, hd, e, k⟩
      · exact .inl e
      · exact .inr ⟨d, List.mem_append_left _ hd, e, k⟩
    refine ⟨by rw [List.length_append, List.length_singleton]; omega, h3, fun n hn => ?_, fun n hn => ?_, fun n hn => ?_⟩
    · rcases List.mem_append.1 hn with hn | hn
      · exact ht.path n hn
      · rw [List.mem_singleton] at hn; subst hn; exact h1
    · rcases List.mem_append.1 hn with hn | hn
      · exact ht.right n hn
      · rw [List.mem_singleton] at hn; subst hn; exact h2
    · rcases List.mem_append.1 hn with hn | hn
      · exact up _ (ht.dir n hn)
      · rw [List.mem_singleton] at hn; subst hn; exact up _ h5
theorem tree_step {t : List Nd} {k : Nat} {x : Nd} (hx : t[k]? = some x) (h : treeB (t.take k) = true) (hm : t.length ≤ 1000) : treeB (t.take (k + 1)) = (pathL x.path && rightB x && goesB (t.take k) x.path) := by
  have hk := (List.getElem?_eq_some_iff.1 hx).1
  rw [List.take_add_one, hx, Option.toList_some]
  exact tree_snoc h (by rw [List.length_take]; omega)
theorem tree_stop {t : List Nd} {k : Nat} (h : treeB (t.take k) = false) : treeB t = false := by
  rw [Bool.eq_false_iff]
  intro e
  rw [tree_take e k] at h
  cases h
end Go.Proofs.YtfkaackhikbbkaaGreatDoor.TP
end

section
/- Layer 6: the contracts of the program's place (a binary search) and hasDir. -/
namespace Go.Proofs.YtfkaackhikbbkaaGreatDoor
open Go.RowKit Go.Lib Go.BigFrame
namespace TG
open OM TP TM

theorem drawn_below {w w' : World} (h : NO.Drawn w w') : Below w.heap.size w w' := by
  obtain ⟨n, rfl⟩ := h
  exact ⟨rfl, rfl, rfl, Nat.le_refl _, fun _ _ => rfl⟩
/-- Texts of at most this size. -/
def SmallG (ts : List Nd) : Prop := ∀ n ∈ ts, n.path.length ≤ 1048576 ∧ n.data.length ≤ 1048576
theorem order_txt (a b : ByteArray) (la lb : List UInt8) (w : World) (ha : a.data.toList = la) (hb : b.data.toList = lb) (h1 : la.length ≤ 1048576) (h2 : lb.length ≤ 1048576) :
    Calls Tryz.prog 85 #[.string a, .string b] w fun e w' => e = .returned (.int .i64 (NP.ordL la lb)) ∧ Below w.heap.size w w' := by
  subst ha hb
  refine (NO.order_any a b w (by rw [Lib.size_eq]; unfold maxLen; omega) (by rw [Lib.size_eq]; unfold maxLen; omega)).mono ?_
  rintro e w' ⟨rfl, hd⟩
  exact ⟨rfl, drawn_below hd⟩
theorem txt_of (l : List UInt8) : ∃ S : ByteArray, txt l = .string S ∧ S.data.toList = l := ⟨_, rfl, by simp⟩
set_option maxRecDepth 100000 in
theorem pl1_any (n : Nd) (p : List UInt8) (w : World) (hn : n.path.length ≤ 1048576) (hp : p.length ≤ 1048576) :
    Calls Tryz.prog 142 #[ndVal n, txt p] w fun r w' => r = .returned (.int .i64 (NP.ordL n.path p)) ∧ Below w.heap.size w w' := by
  obtain ⟨q, k, d, m⟩ := n
  obtain ⟨Q, hQ, hQd⟩ := txt_of q
  obtain ⟨S, hS, hSd⟩ := txt_of p
  obtain ⟨D, hD, _⟩ := txt_of d
  unfold ndVal
  simp only at hn ⊢
  rw [hQ, hS, hD]
  obtain ⟨z, hz⟩ : ∃ z, NP.ordL q p = z := ⟨_, rfl⟩
  have CO : Hid (∀ W, Calls Tryz.prog 85 #[.string Q, .string S] W fun e w' => e = .returned (.int .i64 z) ∧ Below W.heap.size W w') := Lib.hid (fun W => by
    rw [← hz]
    exact order_txt Q S q p W hQd hSd hn hp)
  have B0 : Hid (Below w.heap.size w (w.alloc (.cells #[.string Q, .int .i64 k, .string D, .int .i64 m] 25))) := Lib.hid ((Below.refl _ _).alloc (Nat.le_refl _) _)
  rw [hz]
  clear hQ hQd hS hSd hD hz hn hp
  go_enter Tryz.func142, Tryz.ntmps142
  repeat (first | (go_at_call 85; refine (CO.out _).mono ?_; rintro r w1 ⟨rfl, hb⟩; simp only []; have B1 := Lib.hid (Below.trans B0.out (hb.mono B0.out.size)); clear hb) | go_skip | go_guarded | go_step | go_upon)
  go_ret
  exact ⟨rfl, B1.out⟩
/-- What place answers. -/
def PlaceSays (ts : List Nd) (p : List UInt8) (k : Nat) (b : Bool) : Prop :=
  PlaceAt ts p k ∧ ((b = true ∧ ∃ x, ts[k]? = some x ∧ x.path = p) ∨ (b = false ∧ ∀ x, ts[k]? = some x → x.path ≠ p))
def PlacePost (ts : List Nd) (p : List UInt8) (w : World) (r : Ending) (w' : World) : Prop :=
  ∃ (k : Nat) (b : Bool), r = .returned (.tuple #[.int .i64 k, .bool b]) ∧ PlaceSays ts p k b ∧ Below w.heap.size w w'
theorem ord_zero (a b : List UInt8) : (NP.ordL a b == 0) = decide (a = b) := by
  rw [Bool.eq_iff_iff]
  simp [NP.ordL_zero]
set_option maxRecDepth 100000 in
set_option maxHeartbeats 3200000 in
theorem bsf_any (ao : Option Addr) (cap : Nat) (ts : List Nd) (p : List UInt8) (w : World) (h : LayN w ao ts) (hso : Sorted ts) (hs : SmallG ts) (hl : ts.length ≤ 1000) (hp : p.length ≤ 1048576) :
    Calls Tryz.prog 141 #[.slice ao ts.length cap, txt p, .func (.func 142) #[] #[]] w (PlacePost ts p w) := by
  have eg : ∀ args w, (callFunc 142 args).run Tryz.prog w = .ok (.enter 142 args) w := enters_of Tryz.func142 (by kernel_rfl) rfl
  obtain ⟨n, hn⟩ : ∃ n, ts.length = n := ⟨_, rfl⟩
  have HN := Lib.hid hn
  have HL := Lib.hid h
  have HS := Lib.hid hs
  have HO := Lib.hid hso
  rw [hn] at hl ⊢
  obtain ⟨S, hS, hSd⟩ := txt_of p
  have CP : Hid (∀ x ∈ ts, ∀ W, Calls Tryz.prog 142 #[ndVal x, .string S] W fun r w' => r = .returned (.int .i64 (NP.ordL x.path p)) ∧ Below W.heap.size W w') := Lib.hid (fun x hx W => by
    rw [← hS]
    exact pl1_any x p W (HS.out x hx).1 hp)
  rw [hS]
  clear h hn hS hSd hs hso
  go_enter Tryz.func141, Tryz.ntmps141
  repeat (first | go_skip | go_guarded | go_step | go_upon)
  go_loopw [9, 10] (fun s9 s10 wr => ∃ lo hi : Nat, s9 = .int .i64 lo ∧ s10 = .int .i64 hi ∧ lo ≤ hi ∧ hi ≤ n ∧ Ahead ts p lo ∧ Behind ts p hi ∧ Below w.heap.size w wr) (fun s9 s10 _ => (Go.RowKit.intOf s10).toNat - (Go.RowKit.intOf s9).toNat)
  case atStart => exact ⟨0, n, rfl, rfl, Nat.zero_le _, Nat.le_refl _, Ahead.zero _ _, Behind.last (by rw [HN.out]; exact Nat.le_refl _), Below.refl _ _⟩
  case round =>
    obtain ⟨lo, hi, rfl, rfl, hlh, hin, hA, hB, hb⟩ := hrel
    have HA := Lib.hid hA
    have HBe := Lib.hid hB
    have HB := Lib.hid hb
    have hbs := hb.size
    have HLr := Lib.hid (HL.out.below hb)
    clear hA hB hb
    by_cases hlt : lo < hi
    · obtain ⟨m, hm⟩ : ∃ m, (lo + hi) / 2 = m := ⟨_, rfl⟩
      have hmz : ((lo : Int) + (hi : Int)) / 2 = (m : Int) := by omega
      have hmlo : lo ≤ m := by omega
      have hmhi : m < hi := by omega
      have hmn : m < n := by omega
      have hmnz : (m : Int) < n := by omega
      have hltz : (lo : Int) < hi := by omega
      obtain ⟨g, o, rfl, hg, hc⟩ := HLr.out (by rw [HN.out]; omega)
      obtain ⟨x, hx⟩ : ∃ x, ts[m]? = some x := ⟨ts[m]'(by rw [HN.out]; exact hmn), List.getElem?_eq_getElem _⟩
      have hmem := List.mem_of_getElem? hx
      obtain ⟨X, hX, _⟩ := txt_of x.path
      obtain ⟨D, hD, _⟩ := txt_of x.data
      obtain ⟨c0, c1, c2, c3⟩ := hc m x hx
      rw [hX] at c0
      rw [hD] at c2
      have cx := CP.out x hmem
      unfold ndVal at cx
      rw [hX, hD] at cx
      obtain ⟨z, hz⟩ : ∃ z, NP.ordL x.path p = z := ⟨_, rfl⟩
      rw [hz] at cx
      have CX := Lib.hid cx
      have HX := Lib.hid hx
      have HZ := Lib.hid hz
      clear hc hx hX hD hmem cx hz hm hlt
      by_cases hz0 : z < 0
      · have HA2 : Hid (Ahead ts p (m + 1)) := Lib.hid (Ahead.of HO.out HX.out (by rw [HZ.out]; exact hz0))
        repeat (first | (go_at_fn 142; refine (CX.out _).mono ?_; rintro r w1 ⟨rfl, hb⟩; simp only []; have B1 := Lib.hid (Below.trans HB.out (hb.mono hbs)); clear hb) | go_skip | go_guarded | go_step | go_upon)
        exact ⟨⟨m + 1, hi, by go_num, rfl, by omega, by omega, HA2.out, HBe.out, B1.out⟩, by simp [Go.RowKit.intOf]; omega⟩
      · have HB2 : Hid (Behind ts p m) := Lib.hid (Behind.of HO.out HX.out (by rw [HZ.out]; exact hz0))
        repeat (first | (go_at_fn 142; refine (CX.out _).mono ?_; rintro r w1 ⟨rfl, hb⟩; simp only []; have B1 := Lib.hid (Below.trans HB.out (hb.mono hbs)); clear hb) | go_skip | go_guarded | go_step | go_upon)
        exact ⟨⟨lo, m, rfl, rfl, by omega, by omega, HA.out, HB2.out, B1.out⟩, by simp [Go.RowKit.intOf]; omega⟩
    · have hltz : ¬ (lo : Int) < hi := by omega
      obtain rfl : hi = lo := by omega
      have HPl : Hid (PlaceAt ts p hi) := Lib.hid ⟨by rw [HN.out]; exact hin, HA.out, HBe.out⟩
      clear hlt
      by_cases hln : hi < n
      · have hlnz : (hi : Int) < n := by omega
        obtain ⟨g, o, rfl, hg, hc⟩ := HLr.out (by rw [HN.out]; omega)
        obtain ⟨x, hx⟩ : ∃ x, ts[hi]? = some x := ⟨ts[hi]'(by rw [HN.out]; exact hln), List.getElem?_eq_getElem _⟩
        have hmem := List.mem_of_getElem? hx
        obtain ⟨X, hX, _⟩ := txt_of x.path
        obtain ⟨D, hD, _⟩ := txt_of x.data
        obtain ⟨c0, c1, c2, c3⟩ := hc hi x hx
        rw [hX] at c0
        rw [hD] at c2
        have cx := CP.out x hmem
        unfold ndVal at cx
        rw [hX, hD] at cx
        obtain ⟨z, hz⟩ : ∃ z, NP.ordL x.path p = z := ⟨_, rfl⟩
        rw [hz] at cx
        have CX := Lib.hid cx
        obtain ⟨b, hb0⟩ : ∃ b, (z == 0) = b := ⟨_, rfl⟩
        have HSay : Hid (PlaceSays ts p hi b) := Lib.hid (by
          have e := ord_zero x.path p
          rw [hz, hb0] at e
          refine ⟨HPl.out, ?_⟩
          by_cases hxp : x.path = p
          · rw [decide_eq_true hxp] at e
            exact .inl ⟨e, x, hx, hxp⟩
          · rw [decide_eq_false hxp] at e
            refine .inr ⟨e, fun y hy => ?_⟩
            rw [hx] at hy
            cases hy
            exact hxp)
        clear hc hx hX hD hmem cx hz
        repeat (first | (go_at_fn 142; refine (CX.out _).mono ?_; rintro r w1 ⟨rfl, hb⟩; simp only []; have B1 := Lib.hid (Below.trans HB.out (hb.mono hbs)); clear hb) | go_skip | go_guarded | go_step | go_upon)
        go_ret2
        exact ⟨hi, b, rfl, HSay.out, B1.out⟩
      · have hlnz : ¬ (hi : Int) < n := by omega
        have HSay : Hid (PlaceSays ts p hi false) := Lib.hid ⟨HPl.out, .inr ⟨rfl, fun y hy => by
          have := (List.getElem?_eq_some_iff.1 hy).1
          have := HN.out
          omega⟩⟩
        clear hln
        repeat (first | go_skip | go_guarded | go_step | go_upon)
        go_ret2
        exact ⟨hi, false, rfl, HSay.out, HB.out⟩
set_option maxRecDepth 100000 in
theorem place_any (ao : Option Addr) (cap : Nat) (ts : List Nd) (p : List UInt8) (w : World) (h : LayN w ao ts) (hso : Sorted ts) (hs : SmallG ts) (hl : ts.length ≤ 1000) (hp : p.length ≤ 1048576) :
    Calls Tryz.prog 116 #[.slice ao ts.length cap, txt p] w (PlacePost ts p w) := by
  have CB := Lib.hid (bsf_any ao cap ts p w h hso hs hl hp)
  obtain ⟨n, hn⟩ : ∃ n, ts.length = n := ⟨_, rfl⟩
  obtain ⟨S, hS, _⟩ := txt_of p
  rw [hn, hS] at CB ⊢
  clear h hso hs hl hp hn hS
  go_enter Tryz.func116, Tryz.ntmps116
  repeat (first | (go_at_call 141; refine CB.out.mono ?_; rintro r w1 ⟨k, b, rfl, hs, hb⟩; simp only []; have B1 := Lib.hid hb; have HS := Lib.hid hs; clear hb hs) | go_skip | go_guarded | go_step | go_upon)
  go_ret2
  exact ⟨k, b, rfl, HS.out, B1.out⟩
set_option maxRecDepth 100000 in
set_option maxHeartbeats 1600000 in
theorem hasDir_any (ao : Option Addr) (cap : Nat) (ts : List Nd) (p : List UInt8) (w : World) (h : LayN w ao ts) (hso : Sorted ts) (hs : SmallG ts) (hl : ts.length ≤ 1000) (hp : p.length ≤ 1048576) :
    Calls Tryz.prog 86 #[.slice ao ts.length cap, txt p] w fun r w' => r = .returned (.bool (dirB ts p)) ∧ Below w.heap.size w w' := by
  have CB := Lib.hid (place_any ao cap ts p w h hso hs hl hp)
  have HL := Lib.hid h
  have HO := Lib.hid hso
  obtain ⟨n, hn⟩ : ∃ n, ts.length = n := ⟨_, rfl⟩
  have HN := Lib.hid hn
  obtain ⟨S, hS, hSd⟩ := txt_of p
  rw [hn, hS] at CB ⊢
  have HSd := Lib.hid hSd
  have hnz : (n : Int) ≤ 1000 := by omega
  clear h hso hs hl hp hn hS hSd
  go_enter Tryz.func86, Tryz.ntmps86
  repeat (first | (go_at_call 116; fail) | go_skip | go_guarded | go_step | go_upon)
  refine CB.out.mono ?_
  rintro r w1 ⟨k, b, rfl, ⟨hpl, hsay⟩, hb⟩
  simp only []
  have B1 := Lib.hid hb
  have HL1 := Lib.hid (HL.out.below hb)
  by_cases h0 : p = []
  · have hSe : S.toList.isEmpty = true := by rw [Lib.toList_data, HSd.out, h0]; rfl
    have HF : Hid (dirB ts p = true) := Lib.hid (by unfold dirB; rw [decide_eq_true h0]; rfl)
    clear hb hpl hsay h0
    repeat (first | go_skip | go_guarded | go_step | go_upon)
    go_ret
    exact ⟨by rw [HF.out]; rfl, B1.out⟩
  · have hSe : S.toList.isEmpty = false := by rw [Lib.toList_data, HSd.out]; simpa using h0
    have HD : Hid (dirB ts p = (match findN ts p with | some n => decide (n.kind = 2) | none => false)) := Lib.hid (by unfold dirB; rw [decide_eq_false h0]; rfl)
    clear h0
    rcases hsay with ⟨rfl, x, hx, hxp⟩ | ⟨rfl, hno⟩
    · have hkl := (List.getElem?_eq_some_iff.1 hx).1
      have hkz : (k : Int) < n := by have := HN.out; omega
      obtain ⟨g, o, rfl, _, hc⟩ := HL1.out (by omega)
      have c1 := (hc k x hx).k
      obtain ⟨b, hbk⟩ : ∃ b, (x.kind == 2) = b := ⟨_, rfl⟩
      have HB : Hid (dirB ts p = b) := Lib.hid (by rw [HD.out, place_yes HO.out hx hxp, ← hbk]; simp only; rw [Bool.eq_iff_iff]; simp)
      clear hb hpl hx hxp hc hkl
      repeat (first | go_skip | go_guarded | go_step | go_upon)
      go_ret
      exact ⟨by rw [HB.out]; rfl, B1.out⟩
    · have HB : Hid (dirB ts p = false) := Lib.hid (by rw [HD.out, place_no HO.out hpl hno])
      clear hb hpl hno
      repeat (first | go_skip | go_guarded | go_step | go_upon)
      go_ret
      exact ⟨by rw [HB.out]; rfl, B1.out⟩
end TG
end Go.Proofs.YtfkaackhikbbkaaGreatDoor
end

section
/- strings.IndexRune at the two bytes that no name may hold, for a rune beyond ASCII; strings.ContainsAny at these two bytes for every short text. -/
namespace Go.Proofs.YtfkaackhikbbkaaGreatDoor
open Go.RowKit Go.Lib
namespace NA
def slz : ByteArray := ⟨#[47, 0]⟩

theorem encode_big (r : Int) (h0 : 2048 ≤ r) (h1 : r ≤ 1114111) (hv : Lib.validRune r = true) : 3 ≤ (Utf8.encode r).size := by
  unfold Utf8.encode
  unfold Lib.validRune at hv
  have hval : Utf8.valid r = true := by
    unfold Utf8.valid
    simp only [decide_eq_true_eq, Bool.or_eq_true, Bool.and_eq_true] at hv ⊢
    omega
  simp only [hval, if_true]
  rw [if_neg (by omega), if_neg (by omega)]
  split <;> simp [ByteArray.size]
theorem idx_empty (c : Int) (w : World) : Calls Tryz.prog 166 #[.string ByteArray.empty, .int .u8 c] w fun e w' => e = .returned (.int .i64 (-1)) ∧ w' = w := Tryz.strings_IndexByte _ _ _
def End1 (w : World) (e : Ending) (w' : World) : Prop := e = .returned (.int .i64 (-1)) ∧ Below w.heap.size w w'

set_option maxRecDepth 100000 in
set_option maxHeartbeats 800000 in
theorem rune_err (w : World) :
    Calls Tryz.prog 161 #[.string slz, .int .i32 65533] w (End1 w) := by
  have hsz : slz.size = 2 := rfl
  go_enter Tryz.func161, Tryz.ntmps161
  go_wp2
  go_loopg [5, 6] 2 (fun g _ _ wx => ∃ i : Nat, i + g = 2 ∧ wx = w.iter slz i)
  case atStart => exact ⟨0, by omega, rfl⟩
  case round =>
    obtain ⟨i, hig, rfl⟩ := hrel
    match gk, hig with
    | 0, hig =>
      obtain rfl : i = 2 := by omega
      have hnx := run_next_end (P := Tryz.prog) w slz 2
      go_wp2
      go_ret
      exact ⟨rfl, (Below.refl _ _).alloc (Nat.le_refl _) _⟩
    | 1, hig =>
      obtain rfl : i = 1 := by omega
      have hnx := fun ty => run_next_ascii (P := Tryz.prog) w slz 1 ty (by decide) (by decide)
      go_wp2
      go_roundg 0
      case measure => omega
      case rel => exact ⟨2, by omega, rfl⟩
    | 2, hig =>
      obtain rfl : i = 0 := by omega
      have hnx := fun ty => run_next_ascii (P := Tryz.prog) w slz 0 ty (by decide) (by decide)
      go_wp2
      go_roundg 1
      case measure => omega
      case rel => exact ⟨1, by omega, rfl⟩
set_option maxRecDepth 100000 in
set_option maxHeartbeats 800000 in
theorem rune_big (r : Int) (w : World) (h0 : 2048 ≤ r) (h1 : r ≤ 1114111) (h2 : r ≠ 65533) :
    Calls Tryz.prog 161 #[.string slz, .int .i32 r] w fun e w' => e = .returned (.int .i64 (-1)) ∧ w = w' := by
  have hb : (r == 65533) = false := by simpa using h2
  have h0' : decide (r < 128) = false := by simp; omega
  clear h2
  go_enter Tryz.func161, Tryz.ntmps161
  go_wp2_with fail
  refine (Tryz.utf8_ValidRune _ _).mono ?_
  rintro e w' ⟨rfl, rfl⟩
  cases hv : Lib.validRune r
  · go_wp2
    go_ret
    exact ⟨rfl, rfl⟩
  · have hsz : slz.size = 2 := rfl
    obtain ⟨t, ht⟩ : ∃ t, Utf8.encode r = t := ⟨_, rfl⟩
    have h3 : 3 ≤ t.size := by rw [← ht]; exact encode_big r h0 h1 hv
    have h4 : t.size ≤ 4 := by rw [← ht]; exact encode_size_le r
    clear hv
    go_wp2
    go_step3
    go_wp2
    go_loopg [9] 1 (fun _ i wx => i = .int .i64 (t.size - 1) ∧ wx = w')
    case atStart => exact ⟨rfl, rfl⟩
    case round =>
      obtain ⟨rfl, rfl⟩ := hrel
      go_wp2
      try rw [Exit.noGoto_ret]
      go_ret
      exact ⟨rfl, rfl⟩
theorem encode_two (r : Int) (h0 : 128 ≤ r) (h1 : r < 2048) : ∃ x y : UInt8, Utf8.encode r = ⟨#[x, y]⟩ ∧ y ≠ 0 := by
  unfold Utf8.encode
  have hval : Utf8.valid r = true := by
    unfold Utf8.valid
    simp only [decide_eq_true_eq, Bool.or_eq_true, Bool.and_eq_true]
    omega
  simp only [hval, if_true]
  rw [if_neg (by omega), if_pos (by omega)]
  refine ⟨_, _, rfl, ?_⟩
  intro h
  have := congrArg UInt8.toNat h
  simp at this
  omega
set_option maxRecDepth 100000 in
set_option maxHeartbeats 800000 in
theorem rune_two (r : Int) (w : World) (h0 : 128 ≤ r) (h1 : r < 2048) :
    Calls Tryz.prog 161 #[.string slz, .int .i32 r] w fun e w' => e = .returned (.int .i64 (-1)) ∧ ∃ n, w' = w.drewN n := by
  have hb : (r == 65533) = false := by simp; omega
  have h0' : decide (r < 128) = false := by simp; omega
  obtain ⟨x, y, ht, hy⟩ := encode_two r h0 h1
  have hne : (((0 : Int)) != ((y.toNat : Nat) : Int)) = true := by
    rw [bne_iff_ne]
    intro e
    exact hy (UInt8.toNat_inj.1 (by show y.toNat = 0; omega))
  clear hy
  go_enter Tryz.func161, Tryz.ntmps161
  go_wp2_with fail
  refine (Tryz.utf8_ValidRune _ _).mono ?_
  rintro e w' ⟨rfl, rfl⟩
  have hv : Lib.validRune r = true := by unfold Lib.validRune; simp; omega
  rw [hv]
  clear hv
  go_wp2
  go_step3
  go_wp2
  go_loopg [9] 1 (fun _ i wx => i = .int .i64 1 ∧ wx = w')
  case atStart => exact ⟨rfl, rfl⟩
  case round =>
    obtain ⟨rfl, rfl⟩ := hrel
    unfold slz
    clear ht
    have hd : ((((⟨#[47, 0]⟩ : ByteArray)[1]'(by decide)).toNat : Int) != (((⟨#[x, y]⟩ : ByteArray)[1]'(by show 1 < 2; omega)).toNat : Int)) = true := hne
    clear hne
    go_wp2
    go_step3
    go_wp2
    go_quiet (fail)
    rename_i nq
    go_wp2_with fail
    generalize hw2 : wr.drewN nq = w2
    have Hw2 := Lib.hid hw2
    clear hw2
    go_quiet ((go_at_call 166; exact Calls.quiet_of_same (idx_empty _ _)))
    go_wp2
    rw [Exit.noGoto_ret]
    go_wp2
    rw [Exit.noGoto_ret]
    go_ret
    refine ⟨rfl, ?_⟩
    rw [← Hw2.out, World.drewN_drewN]
    exact ⟨_, rfl⟩
theorem below_drewN {B : Nat} {a w : World} (h : Below B a w) (n : Nat) : Below B a (w.drewN n) := ⟨h.os, h.tape, h.output, h.size, h.block⟩

/-- A rune beyond ASCII is neither of the two bytes. -/
theorem rune_none (r : Int) (w : World) (h0 : 128 ≤ r) (h1 : r ≤ 1114111) :
    Calls Tryz.prog 161 #[.string slz, .int .i32 r] w (End1 w) := by
  by_cases h2 : r = 65533
  · subst h2; exact rune_err w
  · by_cases h3 : r < 2048
    · refine (rune_two r w h0 h3).mono ?_
      rintro e w' ⟨rfl, n, rfl⟩
      exact ⟨rfl, below_drewN (Below.refl _ _) n⟩
    · refine (rune_big r w (by omega) h1 h2).mono ?_
      rintro e w' ⟨rfl, rfl⟩
      exact ⟨rfl, Below.refl _ _⟩

/- ContainsAny of the two bytes, for every text of at most 64 bytes -/
theorem high_of (x : Nat) (h : x / 64 = 2) : 128 ≤ x := by omega
theorem decode_high (s : ByteArray) (pos : Nat) (h : pos < s.size) (hb : 128 ≤ (s.get! pos).toNat) :
    128 ≤ (Utf8.decode s pos).1 ∧ (Utf8.decode s pos).1 ≤ 1114111 ∧ 1 ≤ (Utf8.decode s pos).2 ∧ pos + (Utf8.decode s pos).2 ≤ s.size ∧ ∀ k, k < (Utf8.decode s pos).2 → 128 ≤ (s.get! (pos + k)).toNat := by
  have l0 := (s.get! pos).toNat_lt; have l1 := (s.get! (pos + 1)).toNat_lt; have l2 := (s.get! (pos + 2)).toNat_lt; have l3 := (s.get! (pos + 3)).toNat_lt
  have k0 : 128 ≤ (s.get! (pos + 0)).toNat := hb
  have one : ∀ k, k < 1 → 128 ≤ (s.get! (pos + k)).toNat := by
    intro k hk
    have e : k = 0 := by omega
    rw [e]
    exact k0
  unfold Utf8.decode Utf8.runeError Utf8.valid
  simp only [Nat.add_zero, Bool.and_eq_true, Bool.or_eq_true, beq_iff_eq, decide_eq_true_eq, ge_iff_le]
  rw [if_neg (by omega)]
  split
  · rename_i h1
    have k1 := high_of _ h1.2.2
    split
    · refine ⟨by simp only; omega, by simp only; omega, by simp only; omega, by simp only; omega, ?_⟩
      intro k hk
      simp only at hk
      rcases (by omega : k = 0 ∨ k = 1) with rfl | rfl <;> assumption
    · exact ⟨by simp only; omega, by simp only; omega, by simp only; omega, by simp only; omega, one⟩
  · split
    · rename_i h2
      have k1 := high_of _ h2.1.2.2
      have k2 := high_of _ h2.2.2
      split
      · refine ⟨by simp only; omega, by simp only; omega, by simp only; omega, by simp only; omega, ?_⟩
        intro k hk
        simp only at hk
        rcases (by omega : k = 0 ∨ k = 1 ∨ k = 2) with rfl | rfl | rfl <;> assumption
      · exact ⟨by simp only; omega, by simp only; omega, by simp only; omega, by simp only; omega, one⟩
    · split
      · rename_i h3
        have k1 := high_of _ h3.1.1.2.2
        have k2 := high_of _ h3.1.2.2
        have k3 := high_of _ h3.2.2
        split
        · refine ⟨by simp only; omega, by simp only; omega, by simp only; omega, by simp only; omega, ?_⟩
          intro k hk
          simp only at hk
          rcases (by omega : k = 0 ∨ k = 1 ∨ k = 2 ∨ k = 3) with rfl | rfl | rfl | rfl <;> assumption
        · exact ⟨by simp only; omega, by simp only; omega, by simp only; omega, by simp only; omega, one⟩
      · exact ⟨by simp only; omega, by simp only; omega, by simp only; omega, by simp only; omega, one⟩
theorem noAny_wide {s : ByteArray} {i : Nat} : ∀ n, (∀ k, k < n → 128 ≤ (s.get! (i + k)).toNat) → i + n ≤ s.size → Lib.NoAny s.data.toList [47, 0] i → Lib.NoAny s.data.toList [47, 0] (i + n)
  | 0, _, _, h => h
  | n + 1, hk, hn, h => by
    have h1 := noAny_wide n (fun k hk' => hk k (by omega)) (by omega) h
    have hx := hk n (by omega)
    refine h1.succ (x := s.get! (i + n)) ?_ ?_
    · show s.data.toList[i + n]? = _
      rw [Lib.data_getElem? s (i + n) (by omega), Utf8W.get!_of_lt s (i + n) (by omega)]
    · have e1 : s.get! (i + n) ≠ 47 := by intro e; rw [e] at hx; simp at hx
      have e2 : s.get! (i + n) ≠ 0 := by intro e; rw [e] at hx; simp at hx
      simp [e1, e2]
def IdxPost (s : ByteArray) (w : World) (e : Ending) (w' : World) : Prop := e = .returned (.int .i64 (Lib.indexAny s.data.toList [47, 0])) ∧ Below w.heap.size w w'
theorem ascii_idx (x : UInt8) (w : World) (hx : x.toNat < 128) :
    Calls Tryz.prog 161 #[.string slz, .int .i32 x.toNat] w fun e w' => e = .returned (.int .i64 (Lib.indexByte [47, 0] x)) ∧ w = w' := by
  refine (Tryz.strings_IndexRune_ascii slz (x.toNat : Int) w (by omega) (by omega)).mono ?_
  rintro e w' ⟨rfl, rfl⟩
  exact ⟨by simp [slz], rfl⟩
set_option maxRecDepth 100000 in
set_option maxHeartbeats 1600000 in
theorem any_short (s : ByteArray) (w : World) (h8 : s.size ≤ 8) :
    Calls Tryz.prog 157 #[.string s, .string slz] w (IdxPost s w) := by
  have hemp : slz.toList.isEmpty = false := by rw [Lib.toList_data]; rfl
  have hsz : slz.size = 2 := rfl
  have h8z : decide ((8 : Int) < (s.size : Int)) = false := decide_eq_false (by omega)
  go_enter Tryz.func157, Tryz.ntmps157
  go_wp2_with (go_at_call 165; refine (Tryz.strings_shouldUseASCIISet _ _).mono ?_; rintro e w' ⟨rfl, hw⟩; rw [hw, h8z])
  go_loopg [9, 10] s.size (fun g _ _ wx => ∃ i : Nat, i ≤ s.size ∧ s.size ≤ i + g ∧ wx.heap[w.heap.size]? = some (.stringIter s i) ∧ Below w.heap.size w wx ∧ Lib.NoAny s.data.toList [47, 0] i)
  case atStart => exact ⟨0, by omega, by omega, World.iter_heap _ _ _, (Below.refl _ _).alloc (Nat.le_refl _) _, Lib.NoAny.zero _ _⟩
  case round =>
    obtain ⟨i, hi, hig, hit, hb, hno⟩ := hrel
    have HN := Lib.hid hno
    have HI := Lib.hid hit
    have HB := Lib.hid hb
    clear hno hit hb
    by_cases hlt : i < s.size
    · obtain ⟨g', rfl⟩ : ∃ g', gk = g' + 1 := ⟨gk - 1, by omega⟩
      obtain ⟨W2, hW2⟩ : ∃ W2, wr.iterAt w.heap.size s (i + (Utf8.decode s i).2) = W2 := ⟨_, rfl⟩
      have HI2 := Lib.hid (Lib.iterAt_heap wr w.heap.size s i (i + (Utf8.decode s i).2) HI.out)
      have HB2 := Lib.hid (Lib.below_iterAt HB.out (Nat.le_refl w.heap.size) s (i + (Utf8.decode s i).2))
      rw [hW2] at HI2 HB2
      have hnx : ∀ ty, (Instr.next (.pointer (some ⟨w.heap.size, 0, none⟩)) true ty).run Tryz.prog wr = .ok (.tuple #[.bool true, .int .i64 i, .int .i32 (Utf8.decode s i).1]) W2 := fun ty => by rw [← hW2]; exact Lib.run_next_any_at wr w.heap.size s i ty HI.out hlt
      clear hW2
      by_cases hasc : (s[i]'hlt).toNat < 128
      · have hdec := decode_ascii s i hlt hasc
        rw [hdec] at HI2 hnx
        simp only at HI2 hnx
        obtain ⟨x, hx⟩ : ∃ x : UInt8, s[i]'hlt = x := ⟨_, rfl⟩
        have Hxl : Hid (s.data.toList[i]? = some x) := Lib.hid (by rw [← hx]; exact Lib.data_getElem? s i hlt)
        rw [hx] at hnx hasc
        clear hx hdec
        have hcon := Lib.contains_iff_indexByte [47, 0] x
        have cR := fun W => ascii_idx x W hasc
        cases hin : ([47, 0] : List UInt8).contains x
        · rw [hin] at hcon
          have hneg : ¬ ((0 : Int) ≤ Lib.indexByte [47, 0] x) := of_decide_eq_false hcon.symm
          clear hcon
          have Hin := Lib.hid hin
          clear hin
          go_wp2_with (go_at_call 161; refine (cR _).mono ?_; rintro e w' ⟨rfl, rfl⟩)
          go_roundg g'
          case measure => omega
          case rel => exact ⟨i + 1, by omega, by omega, HI2.out, HB2.out, HN.out.succ Hxl.out Hin.out⟩
        · rw [hin] at hcon
          have hpos : (0 : Int) ≤ Lib.indexByte [47, 0] x := of_decide_eq_true hcon.symm
          clear hcon
          have Hin := Lib.hid hin
          clear hin
          go_wp2_with (go_at_call 161; refine (cR _).mono ?_; rintro e w' ⟨rfl, rfl⟩)
          go_ret
          exact ⟨by rw [Lib.indexAny_hit HN.out Hxl.out Hin.out]; rfl, HB2.out⟩
      · have hx : 128 ≤ (s.get! i).toNat := by rw [Utf8W.get!_of_lt s i hlt]; omega
        obtain ⟨d1, d2, d3, d4, d5⟩ := decode_high s i hlt hx
        have HN2 := Lib.hid (noAny_wide _ d5 d4 HN.out)
        generalize (Utf8.decode s i).1 = r at hnx d1 d2
        generalize (Utf8.decode s i).2 = k at hnx d3 d4 d5 HI2 HN2
        clear d5 hx hasc
        have cR := fun W => rune_none (r : Int) W (by omega) (by omega)
        go_wp2_with fail
        refine (cR _).mono ?_
        rintro e w' ⟨rfl, hbe⟩
        have HB3 := Lib.hid (HB2.out.trans (hbe.mono HB2.out.size))
        have HI3 : Hid (w'.heap[w.heap.size]? = some (.stringIter s (i + k))) := Lib.hid (by
          have h1 := HI2.out
          have hlt2 : w.heap.size < W2.heap.size := (Array.getElem?_eq_some_iff.1 h1).1
          rw [hbe.block _ hlt2]; exact h1)
        clear hbe
        go_wp2
        go_roundg g'
        case measure => omega
        case rel => exact ⟨i + k, by omega, by omega, HI3.out, HB3.out, HN2.out⟩
    · obtain rfl : i = s.size := by omega
      have hnx := fun ty => Lib.run_next_end_at (P := Tryz.prog) wr w.heap.size s s.size ty HI.out hlt
      go_wp2
      go_ret
      exact ⟨by rw [Lib.indexAny_none (by rw [← Lib.size_eq]; exact HN.out)]; rfl, HB.out⟩
end NA
end Go.Proofs.YtfkaackhikbbkaaGreatDoor
end

section
/- Layer 1: the contracts of name.Name, name.Path, name.Within: what each answers, for every text, in every world in which Go's tables lie. -/
namespace Go.Proofs.YtfkaackhikbbkaaGreatDoor
open Go.RowKit Go.Lib
namespace NF

def gFirst : Nat := Tryz.laysValid_ren.g 3
def gAcc : Nat := Tryz.laysValid_ren.g 4
/-- What the calls read of Go's own variables: the two tables, and some integer in MaxLen. -/
structure Env (w : World) : Prop where
  tabs : Lib.Utf8Tabs (Tryz.laysValid_ren.g 3) (Tryz.laysValid_ren.g 4) w
  maxl : ∃ m, w.cell? ⟨3, 0, none⟩ = some (.int .i64 m)
theorem Env.below {w w' : World} (h : Env w) (hb : Below w.heap.size w w') : Env w' := by
  refine ⟨Utf8Tabs_below h.tabs hb, ?_⟩
  obtain ⟨m, hm⟩ := h.maxl
  exact ⟨m, by rw [hb.cell (World.block_lt_of_cell? _ _ hm)]; exact hm⟩

def Bad (s : ByteArray) : Prop := s.toList = [] ∨ 64 < s.size ∨ s.toList = [46] ∨ s.toList = [46, 46]
theorem bad_name {s : ByteArray} (h : Bad s) : NP.nameL s.data.toList = false := by
  unfold Bad at h
  rw [Lib.toList_data, Lib.size_eq] at h
  unfold NP.nameL
  rcases h with h | h | h | h
  · rw [h]; rfl
  · rw [decide_eq_false (p := s.data.toList.length ≤ 64) (by omega)]; simp
  · rw [h]; rfl
  · rw [h]; rfl
theorem good_name {s : ByteArray} (h1 : s.toList.isEmpty = false) (h2 : (s.size : Int) ≤ 64) (h3 : (s.toList == [46]) = false) (h4 : (s.toList == [46, 46]) = false) :
    NP.nameL s.data.toList = (Lib.validD s.data.toList && NP.noneOf s.data.toList) := by
  rw [Lib.toList_data] at h1 h3 h4
  rw [Lib.size_eq] at h2
  unfold NP.nameL
  have e1 : s.data.toList ≠ [] := by intro e; rw [e] at h1; simp at h1
  have e2 : s.data.toList.length ≤ 64 := by omega
  have e3 : s.data.toList ≠ [46] := by intro e; rw [e] at h3; simp at h3
  have e4 : s.data.toList ≠ [46, 46] := by intro e; rw [e] at h4; simp at h4
  rw [decide_eq_true e1, decide_eq_true e2, decide_eq_true e3, decide_eq_true e4]
  simp
theorem noneOf_eq (l : List UInt8) : NP.noneOf l = !(Lib.containsAny l [47, 0]) := by
  unfold NP.noneOf Lib.containsAny
  have : (l.contains 47 || l.contains 0) = decide (0 ≤ Lib.indexAny l [47, 0]) := by
    induction l with
    | nil => rfl
    | cons b l ih =>
      have hg := Lib.indexAny_ge [47, 0] l
      rw [Lib.indexAny]
      by_cases hb : ([47, 0] : List UInt8).contains b = true
      · rw [if_pos hb]
        have : b = 47 ∨ b = 0 := by simpa using hb
        rcases this with rfl | rfl <;> simp
      · rw [if_neg hb]
        have hn : ¬ (b = 47) ∧ ¬ (b = 0) := by simpa using hb
        have e1 : (b :: l).contains 47 = l.contains 47 := by simp [Ne.symm hn.1]
        have e2 : (b :: l).contains 0 = l.contains 0 := by simp [Ne.symm hn.2]
        rw [e1, e2, ih]
        by_cases hm : Lib.indexAny l [47, 0] = -1
        · rw [hm]; rfl
        · rw [if_neg (by simpa using hm)]
          rw [decide_eq_true (by omega), decide_eq_true (by omega)]
  rw [this]
def ValidPost (s : ByteArray) (w : World) (e : Ending) (w' : World) : Prop := e = .returned (.bool (Lib.validD s.data.toList)) ∧ Below w.heap.size w w'
theorem valid_any (s : ByteArray) (w : World) (he : Env w) (hs : s.size ≤ 9223372036854775807) :
    Calls Tryz.prog 137 #[.string s] w fun e w' => e = .returned (.bool (Lib.validD s.data.toList)) ∧ Below w.heap.size w w' :=
  Any.utf8_ValidString Tryz.laysValid s w hs he.tabs
set_option maxRecDepth 100000 in
theorem idx_any (s : ByteArray) (w : World) (h : s.size ≤ 64) :
    Calls Tryz.prog 157 #[.string s, .string NA.slz] w (NA.IdxPost s w) := by
  by_cases h8 : s.size ≤ 8
  · exact NA.any_short s w h8
  · have hz : (Tryz.prog.info? 152).map (fun i => (i.zero, i.size)) = some (some (.agg (Array.replicate 256 (.bool false))), 256) := by kernel_rfl
    refine (Any.strings_IndexAny_long Tryz.lays153 (zero_of_info hz).1 (zero_of_info hz).2 s NA.slz w (by decide) (by omega) (by omega) (by decide) ?_).mono ?_
    · intro j b hj
      match j with
      | 0 => simp [NA.slz] at hj; subst hj; decide
      | 1 => simp [NA.slz] at hj; subst hj; decide
      | j + 2 => simp [NA.slz] at hj
    · rintro e w' ⟨rfl, rfl⟩
      exact ⟨rfl, ((Below.refl _ _).alloc (Nat.le_refl _) _).alloc (by simp) _⟩
theorem has_any (s : ByteArray) (w : World) (h : s.size ≤ 64) :
    Calls Tryz.prog 138 #[.string s, .string NA.slz] w fun e w' => e = .returned (.bool (Lib.containsAny s.data.toList [47, 0])) ∧ Below w.heap.size w w' := by
  have c := idx_any s w h
  unfold Lib.containsAny
  go_enter Tryz.func138, Tryz.ntmps138
  go_wp2_with fail
  refine c.mono ?_
  rintro e w' ⟨rfl, hb⟩
  go_wp2
  go_ret
  exact ⟨rfl, hb⟩
set_option maxRecDepth 100000 in
set_option maxHeartbeats 800000 in
theorem name_any (s : ByteArray) (w : World) (he : Env w) (hs : s.size ≤ maxLen) :
    Calls Tryz.prog 112 #[.string s] w fun e w' => e = .returned (.bool (NP.nameL s.data.toList)) ∧ Below w.heap.size w w' := by
  unfold maxLen at hs
  have cV := valid_any s w he hs
  go_enter Tryz.func112, Tryz.ntmps112
  go_wp2_with fail
  · have h : s.toList = [] := by assumption
    go_ret
    exact ⟨by rw [bad_name (.inl h)]; rfl, Below.refl _ _⟩
  · have h : s.toList = [46] := by assumption
    go_ret
    exact ⟨by rw [bad_name (.inr (.inr (.inl h)))]; rfl, Below.refl _ _⟩
  · rename_i h
    have hb : Bad s := by
      unfold Bad
      rcases h with ((h | h) | h) | h
      · exact .inl (by simpa using h)
      · exact .inr (.inl (by omega))
      · exact .inr (.inr (.inl (by simpa using h)))
      · exact .inr (.inr (.inr (by simpa using h)))
    go_ret
    exact ⟨by rw [bad_name hb]; rfl, Below.refl _ _⟩
  · have h : ((s.toList.isEmpty = false ∧ (s.size : Int) ≤ 64) ∧ (s.toList == [46]) = false) ∧ (s.toList == [46, 46]) = false := by assumption
    obtain ⟨⟨⟨h1, h2⟩, h3⟩, h4⟩ := h
    have Hg := Lib.hid (good_name h1 h2 h3 h4)
    have hsz : s.size ≤ 64 := by omega
    clear h1 h3 h4
    refine cV.mono ?_
    rintro e w1 ⟨rfl, hb⟩
    cases hv : Lib.validD s.data.toList
    · have Hv := Lib.hid hv
      clear hv
      go_wp2
      go_ret
      exact ⟨by rw [Hg.out, Hv.out]; rfl, hb⟩
    · have Hv := Lib.hid hv
      clear hv
      have c := has_any s w1 hsz
      clear cV
      go_wp2_with fail
      refine c.mono ?_
      rintro e w2 ⟨rfl, hb2⟩
      go_wp2
      go_ret
      exact ⟨by rw [Hg.out, Hv.out, noneOf_eq]; rfl, hb.trans (hb2.mono hb.size)⟩
  · have h : (64 : Int) < s.size := by assumption
    go_ret
    exact ⟨by rw [bad_name (.inr (.inl (by omega)))]; rfl, Below.refl _ _⟩

/- allNames: of a list of texts that lie in memory -/
theorem all_nil (a : Option Addr) (c : Nat) (w : World) :
    Calls Tryz.prog 82 #[.slice a 0 c] w fun e w' => e = .returned (.bool true) ∧ w = w' := by
  go_enter Tryz.func82, Tryz.ntmps82
  go_wp2
  go_loop [7] (fun i => i = .int .i64 0) (fun _ => 0)
  case atStart => rfl
  case round =>
    subst hrel
    go_wp2
    go_ret
    exact ⟨rfl, rfl⟩
theorem all_snoc {xs : List ByteArray} {k : Nat} {x : ByteArray} (h : NP.allL ((xs.take k).map (·.data.toList)) = true) (hx : xs[k]? = some x) (hn : NP.nameL x.data.toList = true) :
    NP.allL ((xs.take (k + 1)).map (·.data.toList)) = true := by
  rw [List.take_add_one, hx]
  unfold NP.allL at h ⊢
  simp only [Option.toList_some, List.map_append, List.map_cons, List.map_nil, List.all_append, List.all_cons, List.all_nil, h, hn, Bool.and_self]
theorem all_miss {xs : List ByteArray} {k : Nat} {x : ByteArray} (hx : xs[k]? = some x) (hn : NP.nameL x.data.toList = false) : NP.allL (xs.map (·.data.toList)) = false := by
  unfold NP.allL
  rw [List.all_eq_false]
  exact ⟨x.data.toList, List.mem_map.2 ⟨x, List.mem_of_getElem? hx, rfl⟩, by rw [hn]; simp⟩
set_option maxHeartbeats 800000 in
theorem all_any (bk o c : Nat) (xs : List ByteArray) (w : World) (he : Env w) (hcells : ∀ (j : Nat) x, xs[j]? = some x → w.cell? ⟨bk, o + j, none⟩ = some (.string x))
    (hbk : bk < w.heap.size) (hsz : ∀ x ∈ xs, x.size ≤ maxLen) (hlen : xs.length ≤ maxLen) :
    Calls Tryz.prog 82 #[.slice (some ⟨bk, o, none⟩) xs.length c] w fun e w' => e = .returned (.bool (NP.allL (xs.map (·.data.toList)))) ∧ Below w.heap.size w w' := by
  have Hsz := Lib.hid hsz
  have Hc := Lib.hid hcells
  have He := Lib.hid he
  clear hsz hcells he
  unfold maxLen at hlen
  go_enter Tryz.func82, Tryz.ntmps82
  go_wp2
  go_loopw [7] (fun i wr => ∃ k : Nat, k ≤ xs.length ∧ i = .int .i64 k ∧ NP.allL ((xs.take k).map (·.data.toList)) = true ∧ Below w.heap.size w wr) (fun i _ => xs.length - (Go.RowKit.intOf i).toNat)
  case atStart => exact ⟨0, Nat.zero_le _, rfl, rfl, Below.refl _ _⟩
  case round =>
    obtain ⟨k, hk, rfl, ha, hb⟩ := hrel
    have Ha := Lib.hid ha
    have Hb := Lib.hid hb
    clear ha hb
    by_cases hlt : k < xs.length
    · obtain ⟨x, hx⟩ : ∃ x, xs[k]? = some x := ⟨xs[k], List.getElem?_eq_getElem hlt⟩
      have Hx := Lib.hid hx
      have hz : (k : Int) < xs.length := by omega
      have hcell : wr.cell? ⟨bk, o + k, none⟩ = some (.string x) := by
        rw [Hb.out.cell (p := ⟨bk, o + k, none⟩) hbk]; exact Hc.out k x hx
      have cN := name_any x wr (He.out.below Hb.out) (Hsz.out x (List.mem_of_getElem? hx))
      clear hx
      go_wp2_with fail
      refine cN.mono ?_
      rintro e w2 ⟨rfl, hb2⟩
      have Hb2 := Lib.hid (Hb.out.trans (hb2.mono Hb.out.size))
      clear hb2 cN hcell
      cases hn : NP.nameL x.data.toList
      · have Hn := Lib.hid hn
        clear hn
        go_wp2
        go_ret
        exact ⟨by rw [all_miss Hx.out Hn.out]; rfl, Hb2.out⟩
      · have Hn := Lib.hid hn
        clear hn
        go_wp2
        go_roundw
        case rel => exact ⟨k + 1, by omega, by go_num, all_snoc Ha.out Hx.out Hn.out, Hb2.out⟩
        case measure => simp [Go.RowKit.intOf]; omega
    · have hz : ¬ (k : Int) < xs.length := by omega
      have ek : k = xs.length := by omega
      have Hek := Lib.hid ek
      clear ek
      go_wp2
      go_ret
      exact ⟨by have := Ha.out; rw [Hek.out, List.take_length] at this; rw [this]; rfl, Hb.out⟩

/- Path -/
def slash : ByteArray := ⟨#[47]⟩
theorem splitB_le (sep : ByteArray) : ∀ (k : Nat) (s x : ByteArray), x ∈ Lib.splitB sep 0 k s → x.size ≤ s.size
  | 0, s, x, h => by simp [Lib.splitB] at h; subst h; exact Nat.le_refl _
  | k + 1, s, x, h => by
    unfold Lib.splitB at h
    split at h
    · simp at h; subst h; exact Nat.le_refl _
    · rcases List.mem_cons.1 h with rfl | h
      · rw [ByteArray.size_extract]; omega
      · have := splitB_le sep k _ x h
        rw [ByteArray.size_extract] at this
        omega
theorem count_any (s : ByteArray) (w : World) :
    Calls Tryz.prog 81 #[.string s, .string ⟨#[47]⟩] w fun e w' => e = .returned (.int .i64 (s.data.toList.count 47 : Nat)) ∧ w = w' := by
  refine (Tryz.strings_Count_one s 47 w).mono ?_
  rintro e w' ⟨rfl, rfl⟩
  exact ⟨rfl, rfl⟩
/-- The texts lie in block bk, one behind the other, from its head on. -/
structure Lies (bk : Nat) (xs : List ByteArray) (w : World) : Prop where
  cells : ∀ (j : Nat) x, xs[j]? = some x → w.cell? ⟨bk, 0 + j, none⟩ = some (.string x)
  block : bk < w.heap.size
theorem split_any (s : ByteArray) (w : World) (he : Env w) (hs : s.size ≤ 400) :
    Calls Tryz.prog 83 #[.string s, .string ⟨#[47]⟩] w fun e w' => ∃ xs : List ByteArray, e = .returned (.slice (some ⟨w.heap.size, 0, none⟩) xs.length xs.length) ∧
      xs.map (·.data.toList) = Lib.split s.data.toList [47] ∧ (∀ x ∈ xs, x.size ≤ s.size) ∧ xs.length = s.data.toList.count 47 + 1 ∧ Lies w.heap.size xs w' ∧ Below w.heap.size w w' := by
  obtain ⟨m, hm⟩ := he.maxl
  refine (Tryz.strings_Split s ⟨#[47]⟩ m w (by omega) hm (by decide)).mono ?_
  rintro e w' ⟨rfl, rfl⟩
  have hl : (Lib.splitB ⟨#[47]⟩ 0 (Lib.countB s ⟨#[47]⟩) s).length = Lib.countB s ⟨#[47]⟩ + 1 := Lib.splitB_all _ (by decide) 0 _ s rfl
  have hc : Lib.countB s ⟨#[47]⟩ = s.data.toList.count 47 := Lib.count_one 47 s.data.toList
  exact ⟨Lib.splitB ⟨#[47]⟩ 0 (Lib.countB s ⟨#[47]⟩) s, by rw [hl], by rw [Lib.splitB_data]; rfl, fun x hx => splitB_le _ _ _ _ hx, by rw [hl, hc], ⟨pieces_cell w _ 9, pieces_block w _⟩, (Below.refl _ _).alloc (Nat.le_refl _) _⟩
theorem path_parts {s : ByteArray} (h1 : s.size ≤ 400) (h2 : s.data.toList.count 47 < 16) : NP.pathL s.data.toList = NP.allL (Lib.split s.data.toList [47]) := by
  rw [Lib.size_eq] at h1
  unfold NP.pathL
  rw [decide_eq_true h1, decide_eq_true h2]
  simp
theorem path_long {s : ByteArray} (h1 : 400 < s.size) : NP.pathL s.data.toList = false := by
  rw [Lib.size_eq] at h1
  unfold NP.pathL
  rw [decide_eq_false (by omega)]
  simp
theorem path_deep {s : ByteArray} (h1 : 16 ≤ s.data.toList.count 47) : NP.pathL s.data.toList = false := by
  unfold NP.pathL
  rw [decide_eq_false (p := s.data.toList.count 47 < 16) (by omega)]
  simp
set_option maxHeartbeats 800000 in
theorem path_any (s : ByteArray) (w : World) (he : Env w) (hs : s.size ≤ maxLen) :
    Calls Tryz.prog 50 #[.string s] w fun e w' => e = .returned (.bool (NP.pathL s.data.toList)) ∧ Below w.heap.size w w' := by
  unfold maxLen at hs
  have He := Lib.hid he
  clear he
  by_cases h4 : s.size ≤ 400
  · have hz : ¬ (400 : Int) < s.size := by omega
    have hd : decide ((400 : Int) < s.size) = false := decide_eq_false hz
    have cC := count_any s w
    by_cases h16 : s.data.toList.count 47 < 16
    · have Hp := Lib.hid (path_parts h4 h16)
      have h16z : ¬ (16 : Int) ≤ (s.data.toList.count 47 : Nat) := by omega
      have cS := split_any s w He.out h4
      generalize s.data.toList.count 47 = n at cC h16 h16z cS
      go_enter Tryz.func50, Tryz.ntmps50
      go_wp2_with fail
      refine cC.mono ?_
      rintro e w1 ⟨rfl, rfl⟩
      go_wp2_with fail
      refine cS.mono ?_
      rintro e w1 ⟨xs, rfl, hx1, hx2, hx3, hx4, hbl⟩
      have Hx := Lib.hid hx1
      clear hx1 cC cS
      have cA := all_any w.heap.size 0 xs.length xs w1 (He.out.below hbl) hx4.cells hx4.block (fun x hx => by have := hx2 x hx; unfold maxLen; omega) (by unfold maxLen; omega)
      have Hbl := Lib.hid hbl
      clear hbl hx2 hx4 hx3
      go_wp2_with fail
      refine cA.mono ?_
      rintro e w2 ⟨rfl, hb⟩
      have Hb := Lib.hid (Hbl.out.trans (hb.mono Hbl.out.size))
      clear hb cA
      go_wp2
      go_ret
      exact ⟨by rw [Hp.out, ← Hx.out]; rfl, Hb.out⟩
    · have Hp := Lib.hid (path_deep (s := s) (by omega))
      have h16z : (16 : Int) ≤ (s.data.toList.count 47 : Nat) := by omega
      generalize s.data.toList.count 47 = n at cC h16 h16z
      go_enter Tryz.func50, Tryz.ntmps50
      go_wp2_with fail
      refine cC.mono ?_
      rintro e w1 ⟨rfl, rfl⟩
      go_wp2
      go_ret
      exact ⟨by rw [Hp.out]; rfl, Below.refl _ _⟩
  · have Hp := Lib.hid (path_long (s := s) (by omega))
    have hz : (400 : Int) < s.size := by omega
    go_enter Tryz.func50, Tryz.ntmps50
    go_wp2
    go_ret
    exact ⟨by rw [Hp.out]; rfl, Below.refl _ _⟩
end NF
end Go.Proofs.YtfkaackhikbbkaaGreatDoor
end

section
/- Layer 1: the contracts of name.Within, name.Parent, name.Base: what each answers, for every text. -/
namespace Go.Proofs.YtfkaackhikbbkaaGreatDoor
open Go.RowKit Go.Lib
namespace NI
open NF

/- Join -/
end NI
namespace NC
open NF NI

theorem path_short {l : List UInt8} (h : NP.pathL l = true) : l.length ≤ 400 := by
  unfold NP.pathL at h
  simp only [Bool.and_eq_true, decide_eq_true_eq] at h
  exact h.1.1
def TextPost (l : List UInt8) (w : World) (e : Ending) (w' : World) : Prop := ∃ t : ByteArray, e = .returned (.string t) ∧ t.data.toList = l ∧ Below w.heap.size w w'
theorem extract_to (s : ByteArray) (i : Nat) : (s.extract 0 i).data.toList = s.data.toList.take i := Lib.extract_from_zero s i
theorem extract_from (s : ByteArray) (i : Nat) : (s.extract i s.size).data.toList = s.data.toList.drop i := by
  rw [Lib.extract_data, List.take_of_length_le]
  rw [List.length_drop, Lib.size_eq]
  omega
theorem last_any (s : ByteArray) (w : World) (hs : s.size ≤ 400) :
    Calls Tryz.prog 117 #[.string s, .int .u8 47] w fun e w' => e = .returned (.int .i64 (Lib.lastIndexByte s 47)) ∧ w = w' := by
  refine (Tryz.strings_LastIndexByte s 47 (by omega) w).mono ?_
  rintro e w' ⟨rfl, rfl⟩
  exact ⟨rfl, rfl⟩
set_option maxHeartbeats 800000 in
theorem parent_any (s : ByteArray) (w : World) (he : Env w) (hs : s.size ≤ maxLen) :
    Calls Tryz.prog 87 #[.string s] w (TextPost (NP.parentL s.data.toList) w) := by
  have cP := path_any s w he hs
  clear he
  cases hp : NP.pathL s.data.toList
  · have Hf : Hid (NP.parentL s.data.toList = []) := Lib.hid (by unfold NP.parentL; rw [hp]; rfl)
    rw [hp] at cP
    clear hp
    go_enter Tryz.func87, Tryz.ntmps87
    go_wp2_with fail
    refine cP.mono ?_
    rintro e w1 ⟨rfl, hb⟩
    go_wp2
    go_ret
    exact ⟨_, rfl, by rw [Hf.out], hb⟩
  · have h4 : s.size ≤ 400 := by rw [Lib.size_eq]; exact path_short hp
    have Hf : Hid (NP.parentL s.data.toList = NP.upL s.data.toList) := Lib.hid (by unfold NP.parentL; rw [hp]; rfl)
    rw [hp] at cP
    clear hp
    have cL := fun W => last_any s W h4
    rcases NP.last_at s with ⟨h1, h2⟩ | ⟨i, hi, h1, h2, h3⟩
    · rw [h1] at cL
      have Hu := Lib.hid (NP.upL_none h2)
      clear h1 h2
      go_enter Tryz.func87, Tryz.ntmps87
      go_wp2_with fail
      refine cP.mono ?_
      rintro e w1 ⟨rfl, hb⟩
      go_wp2_with fail
      refine (cL _).mono ?_
      rintro e w2 ⟨rfl, rfl⟩
      go_wp2
      go_ret
      refine ⟨_, rfl, ?_, hb⟩
      rw [Hf.out, Hu.out]
      all_goals first | rfl | (simp; done) | (simp; left; decide)
    · rw [h1] at cL
      have Hu : Hid (NP.upL s.data.toList = s.data.toList.take i) := Lib.hid (by
        have := NP.upL_snoc (u := s.data.toList.take i) h3
        rw [← h2] at this
        exact this)
      have hiz : (i : Int) ≤ s.size := by omega
      clear h1 h2 h3
      go_enter Tryz.func87, Tryz.ntmps87
      go_wp2_with fail
      refine cP.mono ?_
      rintro e w1 ⟨rfl, hb⟩
      go_wp2_with fail
      refine (cL _).mono ?_
      rintro e w2 ⟨rfl, rfl⟩
      go_wp2
      go_ret
      refine ⟨_, rfl, ?_, hb⟩
      rw [Hf.out, Hu.out, ← extract_to]
      all_goals first | rfl | (simp; done) | (simp; left; decide)
end NC
end Go.Proofs.YtfkaackhikbbkaaGreatDoor
end

section
/- Layer 6: the contracts of the program's within (sort.Search over a closure), goesOn, rightNode, hasNoPath. -/
namespace Go.Proofs.YtfkaackhikbbkaaGreatDoor
open Go.RowKit Go.Lib Go.BigFrame
namespace TG
open OM TP TM

/-- A callee's contract, met in a world of a region that draws its order. -/
theorem reg_g {f : FuncId} {args : Array Value} {v : Value} {w : World} (h : ∀ W, Below w.heap.size w W → Calls Tryz.prog f args W fun e w' => e = .returned v ∧ Below W.heap.size W w') (d : Nat) (os : Array Obj) :
    Calls Tryz.prog f args (Go.Sort.grow (redrawn w d) os) fun e w'' => e = .returned v ∧ ∃ p : Regrown, w'' = Go.Sort.grow (redrawn w p.d) p.os := Calls.regrown_of (h _ (below_regrown w d os))
theorem path_txt (S : ByteArray) (l : List UInt8) (w : World) (he : NF.Env w) (hS : S.data.toList = l) (h : l.length ≤ 1048576) :
    Calls Tryz.prog 50 #[.string S] w fun e w' => e = .returned (.bool (NP.pathL l)) ∧ Below w.heap.size w w' := by
  subst hS
  exact NF.path_any S w he (by rw [Lib.size_eq]; unfold maxLen; omega)
theorem parent_txt (S : ByteArray) (l : List UInt8) (w : World) (he : NF.Env w) (hS : S.data.toList = l) (h : l.length ≤ 1048576) :
    Calls Tryz.prog 87 #[.string S] w fun e w' => e = .returned (txt (NP.parentL l)) ∧ Below w.heap.size w w' := by
  subst hS
  refine (NC.parent_any S w he (by rw [Lib.size_eq]; unfold maxLen; omega)).mono ?_
  rintro e w' ⟨t, rfl, ht, hb⟩
  exact ⟨by rw [← ht, txt_data], hb⟩
theorem parent_len (p : List UInt8) : (NP.parentL p).length ≤ p.length := by
  unfold NP.parentL
  split
  · by_cases h : p = []
    · rw [h]; exact Nat.le_refl _
    · exact Nat.le_of_lt (up_short h)
  · exact Nat.zero_le _
theorem cell_box (w : World) (v : Value) (t : TypeId) : (w.alloc (.cells #[v] t)).cell? ⟨w.heap.size, 0, none⟩ = some v := by
  rw [World.cell?_alloc_at _ _ _ _ rfl]; rfl
end TG
end Go.Proofs.YtfkaackhikbbkaaGreatDoor
end
