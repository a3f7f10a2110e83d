/- Texts of this seat, put one behind the other: Own NamePlain NamePath RefOrdP TreePath TreePlain TreePut TreeMem TreeMore TreePutP TreeGo. -/
import Derived.Test.YtmpmmebmhffaeaaGreatDoorChecked
import Derived.Lib.OthersKept
import Derived.Laws.NewBlocks
import Derived.WalkMore
import Derived.Lib.Hide
import Derived.OwnWalk
import Derived.Laws.AppendOwn
import Derived.Laws.OwnMore
import Derived.Lib.ValidU
import Derived.Lib.Split
import Derived.Lib.SplitLaws
import Derived.Lib.Strings
import Derived.Lib.Join
import Derived.Lib.IndexMore
import Derived.Lib.IndexBytes
import Derived.Lib.LastIndexByte
set_option linter.all false
set_option maxRecDepth 100000
set_option maxHeartbeats 25600000
section
/- What is owned stays owned (general; no function of the program is read here). -/
namespace Go.Proofs.YtmpmmebmhffaeaaGreatDoor
open Go.RowKit Go.Lib
namespace OM

/-- The end of a body without results. -/
theorem end0 {P : Program} {fn : Func} {R : Ending → World → Prop} {a : Act} {w : World} (hr : fn.results = #[]) (hd : a.defers = []) (hR : R (.returned (.tuple #[])) w) : bodyPost P fn R .normal a w := by
  exact bodyPost_end (results_none hr _ _ _) hd hR
/- what is owned stays owned -/
theorem owns_below {w w' : World} {base e size : Nat} {v : Value} {n : Nat} {xs : List Value} (h : w.ownsRow base e size v n xs) (hb : Below w.heap.size w w') : w'.ownsRow base e size v n xs := by
  refine ⟨h.1, ?_⟩
  rcases h.2 with hn | ⟨g, cap, cur, rfl, hb', hgg, rest⟩
  · exact .inl hn
  · exact .inr ⟨g, cap, cur, rfl, hb', by rw [hb.block g (Array.getElem?_eq_some_iff.1 hgg).1]; exact hgg, rest⟩
theorem owns_others {w w' : World} {T base e size : Nat} {v : Value} {n : Nat} {xs : List Value} (h : w.ownsRow base e size v n xs) (hne : e ≠ T) (hk : OthersKept T none w w') : w'.ownsRow base e size v n xs := by
  refine ⟨h.1, ?_⟩
  rcases h.2 with hn | ⟨g, cap, cur, rfl, hb', hgg, rest⟩
  · exact .inl hn
  · refine .inr ⟨g, cap, cur, rfl, hb', hk g _ hgg (by simp) (fun c fz he => ?_), rest⟩
    simp only [Obj.cells.injEq] at he
    exact hne he.2.1
theorem owns_base {w : World} {base e size : Nat} {v : Value} {n : Nat} {xs : List Value} (h : w.ownsRow base e size v n xs) (base' : Nat) (hb : base' ≤ base) : w.ownsRow base' e size v n xs := by
  refine ⟨h.1, ?_⟩
  rcases h.2 with hn | ⟨g, cap, cur, rfl, hb', rest⟩
  · exact .inl hn
  · exact .inr ⟨g, cap, cur, rfl, by omega, rest⟩
theorem below_others {w w' : World} (h : Below w.heap.size w w') (T : Nat) (b : Option Nat) : OthersKept T b w w' := by
  intro k o hk _ _
  rw [h.block k (Array.getElem?_eq_some_iff.1 hk).1]
  exact hk
theorem owns_kind {w : World} {base e size : Nat} {v : Value} {n : Nat} {xs : List Value} (h : w.ownsRow base e size v n xs) : ∀ g, v.ownBlock = some g → ∃ c fz, w.heap[g]? = some (.cells c e fz) := by
  intro g hg
  rcases h.2 with ⟨rfl, _⟩ | ⟨g', cap, cur, rfl, _, hgg, _⟩
  · simp [Value.ownBlock] at hg
  · simp [Value.ownBlock] at hg
    subst hg
    exact ⟨cur, _, hgg⟩
theorem others_grown {w w' : World} {base e size : Nat} {v : Value} {n : Nat} {xs : List Value} (h : w.ownsRow base e size v n xs) (hg : w.grownBy w' v.ownBlock) : OthersKept e none w w' :=
  (OthersKept.refl e none w).grown hg (owns_kind h)
/-- An owned value, as its parts: where it is not empty it has an address, and the cells lie there. -/
theorem owns_view {w : World} {base e size : Nat} {v : Value} {n : Nat} {xs : List Value} (h : w.ownsRow base e size v n xs) : ∃ ao c, v = .slice ao n c ∧ (0 < n → ∃ g, ao = some ⟨g, 0, none⟩ ∧ g < w.heap.size ∧ base ≤ g ∧ ∀ j, j < n * size → w.cell? ⟨g, j, none⟩ = xs[j]?) := by
  have h0 := h
  rcases h.2 with ⟨rfl, rfl⟩ | ⟨g, cap, cur, rfl, hb, hgg, _⟩
  · exact ⟨none, 0, rfl, fun h => absurd h (Nat.lt_irrefl _)⟩
  · exact ⟨_, cap, rfl, fun _ => ⟨g, rfl, (Array.getElem?_eq_some_iff.1 hgg).1, hb, fun j hj => h0.cellAt j hj⟩⟩
theorem owns_len {w : World} {base e size : Nat} {v : Value} {n : Nat} {xs : List Value} (h : w.ownsRow base e size v n xs) : n ≤ maxLen := by
  rcases h.2 with ⟨_, rfl⟩ | ⟨g, cap, cur, _, _, _, h1, h2, _⟩
  · exact Nat.zero_le _
  · omega
theorem owns_one {w : World} {base e size : Nat} {v : Value} {n : Nat} {xs : List Value} (h : w.ownsRow base e size v n xs) : v.oneCell' = true := by
  obtain ⟨ao, c, rfl, _⟩ := owns_view h
  rfl

theorem owns_drew {w w' : World} {base e size : Nat} {v : Value} {n : Nat} {xs : List Value} (h : w.ownsRow base e size v n xs) (hb : Below w.heap.size w w') (base' : Nat) (hb2 : base' ≤ base) : w'.ownsRow base' e size v n xs := owns_base (owns_below h hb) base' hb2
theorem one_new (w : World) (x : Value) (t : TypeId) : ∀ (j : Nat) (u : Value), [x][j]? = some u → (w.alloc (.cells #[x] t)).cell? ((⟨w.heap.size, 0, none⟩ : Addr).add j) = some u := by
  intro j u hj
  match j with
  | 0 =>
    simp at hj
    subst hj
    have e : (⟨w.heap.size, 0, none⟩ : Addr).add 0 = ⟨w.heap.size, 0, none⟩ := rfl
    rw [e, World.cell?_alloc_at _ _ _ _ rfl]
    rfl
  | j + 1 => simp at hj
end OM
end Go.Proofs.YtmpmmebmhffaeaaGreatDoor
end
section
/- Layer 1's answers over lists of bytes: a name, a path, the order of paths, what is within a path; and the plain facts about them (no program is read here). -/
namespace Go.Proofs.YtmpmmebmhffaeaaGreatDoor.NP
open Go

def noneOf (l : List UInt8) : Bool := !(l.contains 47 || l.contains 0)
def nameL (l : List UInt8) : Bool := decide (l ≠ []) && decide (l.length ≤ 64) && decide (l ≠ [46]) && decide (l ≠ [46, 46]) && Lib.validD l && noneOf l
def allL (ls : List (List UInt8)) : Bool := ls.all nameL
def pathL (l : List UInt8) : Bool := decide (l.length ≤ 400) && decide (l.count 47 < 16) && allL (Lib.split l [47])
def rk (c : UInt8) : Nat := if c = 47 then 0 else c.toNat + 1
def cmpN (x y : Nat) : Int := if x < y then -1 else if y < x then 1 else 0
def ordN : List Nat → List Nat → Int
  | [], [] => 0
  | [], _ :: _ => -1
  | _ :: _, [] => 1
  | x :: xs, y :: ys => if x < y then -1 else if y < x then 1 else ordN xs ys
def ordL (a b : List UInt8) : Int := ordN (a.map rk) (b.map rk)
def restOk (q r : List UInt8) : Bool := decide (q = []) || decide (r = []) || decide (r.head? = some 47)
def withinL (p q : List UInt8) : Bool := pathL p && (Lib.hasPrefix p q && restOk q (p.drop q.length))

theorem rk_inj {x y : UInt8} (h : rk x = rk y) : x = y := by
  unfold rk at h
  split at h <;> split at h
  · simp_all
  · omega
  · omega
  · apply UInt8.toNat_inj.1; omega
theorem map_rk_inj : ∀ {a b : List UInt8}, a.map rk = b.map rk → a = b
  | [], [], _ => rfl
  | [], _ :: _, h => by simp at h
  | _ :: _, [], h => by simp at h
  | x :: a, y :: b, h => by
    simp only [List.map_cons, List.cons.injEq] at h
    rw [rk_inj h.1, map_rk_inj h.2]

theorem ordN_cases : ∀ a b : List Nat, ordN a b = -1 ∨ ordN a b = 0 ∨ ordN a b = 1
  | [], [] => by simp [ordN]
  | [], _ :: _ => by simp [ordN]
  | _ :: _, [] => by simp [ordN]
  | x :: a, y :: b => by
    unfold ordN
    split
    · simp
    · split
      · simp
      · exact ordN_cases a b
theorem ordN_swap : ∀ a b : List Nat, ordN b a = -ordN a b
  | [], [] => by simp [ordN]
  | [], _ :: _ => by simp [ordN]
  | _ :: _, [] => by simp [ordN]
  | x :: a, y :: b => by
    unfold ordN
    by_cases h : x < y
    · rw [if_pos h, if_neg (by omega), if_pos h]; rfl
    · by_cases h2 : y < x
      · rw [if_pos h2, if_neg h, if_pos h2]
      · rw [if_neg h2, if_neg h, if_neg h, if_neg h2]; exact ordN_swap a b
theorem ordN_self : ∀ a : List Nat, ordN a a = 0
  | [] => rfl
  | x :: a => by unfold ordN; rw [if_neg (by omega), if_neg (by omega)]; exact ordN_self a
theorem ordN_eq : ∀ {a b : List Nat}, ordN a b = 0 → a = b
  | [], [], _ => rfl
  | [], _ :: _, h => by simp [ordN] at h
  | _ :: _, [], h => by simp [ordN] at h
  | x :: a, y :: b, h => by
    unfold ordN at h
    split at h
    · omega
    · split at h
      · omega
      · have : x = y := by omega
        rw [this, ordN_eq h]
theorem ordN_trans : ∀ {a b c : List Nat}, ordN a b ≤ 0 → ordN b c ≤ 0 → ordN a c ≤ 0
  | [], _, [], _, _ => by simp [ordN]
  | [], _, _ :: _, _, _ => by simp [ordN]
  | _ :: _, [], _, h, _ => by simp [ordN] at h
  | _ :: _, _ :: _, [], _, h => by simp [ordN] at h
  | x :: a, y :: b, z :: c, h, k => by
    unfold ordN at h k ⊢
    by_cases h1 : x < z
    · rw [if_pos h1]; omega
    · rw [if_neg h1]
      by_cases hxy : x < y
      · have hyz : z < y := by omega
        rw [if_neg (by omega), if_pos hyz] at k; omega
      · rw [if_neg hxy] at h
        by_cases hyx : y < x
        · rw [if_pos hyx] at h; omega
        · rw [if_neg hyx] at h
          have e : x = y := by omega
          subst e
          rw [if_neg h1] at k
          by_cases hzx : z < x
          · rw [if_pos hzx] at k; omega
          · rw [if_neg hzx] at k ⊢
            exact ordN_trans h k
theorem ordL_cases (a b : List UInt8) : ordL a b = -1 ∨ ordL a b = 0 ∨ ordL a b = 1 := ordN_cases _ _
theorem ordL_swap (a b : List UInt8) : ordL b a = -ordL a b := ordN_swap _ _
theorem ordL_zero (a b : List UInt8) : ordL a b = 0 ↔ a = b := ⟨fun h => map_rk_inj (ordN_eq h), fun h => by subst h; exact ordN_self _⟩
theorem ordL_trans {a b c : List UInt8} (h : ordL a b ≤ 0) (k : ordL b c ≤ 0) : ordL a c ≤ 0 := ordN_trans h k
theorem ordL_lt {a b c : List UInt8} (h : ordL a b < 0) (k : ordL b c ≤ 0) : ordL a c < 0 := by
  have h1 := ordL_trans (Int.le_of_lt h) k
  rcases ordL_cases a c with e | e | e
  · omega
  · have := (ordL_zero a c).1 e
    subst this
    have := ordL_swap a b
    omega
  · omega

/- the loop's two ends -/
theorem ordN_append : ∀ (p a b : List Nat), ordN (p ++ a) (p ++ b) = ordN a b
  | [], _, _ => rfl
  | x :: p, a, b => by
    simp only [List.cons_append]
    rw [ordN, if_neg (by omega), if_neg (by omega)]
    exact ordN_append p a b
theorem ordL_append (p a b : List UInt8) : ordL (p ++ a) (p ++ b) = ordL a b := by
  unfold ordL; rw [List.map_append, List.map_append, ordN_append]
theorem ordL_miss {a b : List UInt8} {i : Nat} {x y : UInt8} (h : a.take i = b.take i) (ha : a[i]? = some x) (hb : b[i]? = some y) (hne : x ≠ y) :
    ordL a b = cmpN (rk x) (rk y) := by
  obtain ⟨hi, ha'⟩ := List.getElem?_eq_some_iff.1 ha
  obtain ⟨hj, hb'⟩ := List.getElem?_eq_some_iff.1 hb
  have ea : a = a.take i ++ x :: a.drop (i + 1) := by rw [← ha', ← List.drop_eq_getElem_cons hi, List.take_append_drop]
  have eb : b = a.take i ++ y :: b.drop (i + 1) := by rw [h, ← hb', ← List.drop_eq_getElem_cons hj, List.take_append_drop]
  rw [ea, eb, ordL_append]
  have hr : rk x ≠ rk y := fun e => hne (rk_inj e)
  simp only [ordL, List.map_cons, ordN, cmpN]
  split
  · rfl
  · rw [if_pos (by omega), if_pos (by omega)]
theorem ordL_end {a b : List UInt8} {m : Nat} (hm : m = min a.length b.length) (h : a.take m = b.take m) : ordL a b = cmpN a.length b.length := by
  unfold cmpN
  by_cases h1 : a.length < b.length
  · have e1 : m = a.length := by omega
    rw [e1, List.take_length] at h
    have eb : b = a ++ b.drop a.length := by conv => lhs; rw [← List.take_append_drop a.length b, ← h]
    rw [if_pos h1]
    have hl : b.drop a.length ≠ [] := by intro e; have := congrArg List.length e; simp at this; omega
    obtain ⟨z, r, hz⟩ := List.exists_cons_of_ne_nil hl
    have := ordL_append a [] (b.drop a.length)
    rw [List.append_nil, ← eb, hz] at this
    rw [this]; rfl
  · by_cases h2 : b.length < a.length
    · have e1 : m = b.length := by omega
      rw [e1, List.take_length] at h
      have ea : a = b ++ a.drop b.length := by conv => lhs; rw [← List.take_append_drop b.length a, h]
      rw [if_neg h1, if_pos h2]
      have hl : a.drop b.length ≠ [] := by intro e; have := congrArg List.length e; simp at this; omega
      obtain ⟨z, r, hz⟩ := List.exists_cons_of_ne_nil hl
      have := ordL_append b (a.drop b.length) []
      rw [List.append_nil, ← ea, hz] at this
      rw [this]; rfl
    · rw [if_neg h1, if_neg h2]
      have e1 : m = a.length := by omega
      have e2 : a.length = b.length := by omega
      rw [e1, List.take_length, e2, List.take_length] at h
      exact (ordL_zero a b).2 h

/- what is within a stands right behind a -/
theorem between {a b c : List UInt8} (hb : pathL b = true) (hw : withinL c a = true) (hx : ordL a b < 0) (hy : ordL b c < 0) : withinL b a = true := by
  unfold withinL at hw ⊢
  simp only [Bool.and_eq_true] at hw
  obtain ⟨_, hp, hr⟩ := hw
  unfold Lib.hasPrefix at hp ⊢
  rw [List.isPrefixOf_iff_prefix] at hp
  obtain ⟨r, rfl⟩ := hp
  rw [List.drop_left] at hr
  rw [hb, Bool.true_and]
  by_cases hpre : a <+: b
  · obtain ⟨s, rfl⟩ := hpre
    rw [Bool.and_eq_true, List.isPrefixOf_iff_prefix]
    refine ⟨⟨s, rfl⟩, ?_⟩
    rw [List.drop_left]
    rw [ordL_append] at hy
    unfold restOk at hr ⊢
    simp only [Bool.or_eq_true, decide_eq_true_eq] at hr ⊢
    rcases hr with (hr | hr) | hr
    · exact .inl (.inl hr)
    · subst hr
      cases s with
      | nil => exact .inl (.inr rfl)
      | cons z s => simp [ordL, ordN] at hy
    · cases r with
      | nil => simp at hr
      | cons w r =>
        simp only [List.head?_cons, Option.some.injEq] at hr
        subst hr
        cases s with
        | nil => exact .inl (.inr rfl)
        | cons z s =>
          refine .inr ?_
          by_cases hz : z = 47
          · simp [hz]
          · exfalso
            have h0 : rk 47 = 0 := rfl
            have h1 : 0 < rk z := by unfold rk; rw [if_neg hz]; omega
            simp only [ordL, List.map_cons, ordN] at hy
            rw [h0, if_neg (by omega), if_pos h1] at hy
            omega
  · -- a and b part at a place that both have: so b and a ++ r part there
    exfalso
    have key : ∀ (a b r : List UInt8), ¬ a <+: b → ordL a b < 0 → ¬ ordL b (a ++ r) < 0 := by
      intro a
      induction a with
      | nil => intro b r h _; exact absurd (List.nil_prefix) h
      | cons x a ih =>
        intro b r h h1 h2
        cases b with
        | nil => simp [ordL, ordN] at h1
        | cons y b =>
          simp only [ordL, List.map_cons, ordN, List.cons_append] at h1 h2
          by_cases e1 : rk x < rk y
          · rw [if_neg (by omega), if_pos e1] at h2; omega
          · rw [if_neg e1] at h1
            by_cases e2 : rk y < rk x
            · rw [if_pos e2] at h1; omega
            · rw [if_neg e2] at h1
              have e : x = y := rk_inj (by omega)
              subst e
              rw [if_neg (by omega), if_neg (by omega)] at h2
              exact ih b r (fun hp => h (by obtain ⟨t, rfl⟩ := hp; exact ⟨t, rfl⟩)) h1 h2
    exact key a b r hpre hx hy
end Go.Proofs.YtmpmmebmhffaeaaGreatDoor.NP
end
section
/- Layer 1: a text cut at its slashes, put together again, its last part and what stands ahead of it: over lists of bytes. -/
namespace Go.Proofs.YtmpmmebmhffaeaaGreatDoor.NP
open Go

def cutOn : List UInt8 → List (List UInt8)
  | [] => [[]]
  | x :: r => if x = 47 then [] :: cutOn r else match cutOn r with
    | [] => [[x]]
    | h :: t => (x :: h) :: t
theorem cutOn_ne (l : List UInt8) : cutOn l ≠ [] := by
  cases l with
  | nil => simp [cutOn]
  | cons x r =>
    unfold cutOn
    split
    · simp
    · split <;> simp
theorem index_cons_ne (x : UInt8) (r : List UInt8) (h : x ≠ 47) : Lib.index (x :: r) [47] = if Lib.index r [47] = -1 then -1 else Lib.index r [47] + 1 := by
  rw [Lib.index_one, Lib.index_one]
  rw [Lib.indexByte]
  have hx : (x == 47) = false := by simpa using h
  simp [hx]
theorem index_cons_eq (r : List UInt8) : Lib.index (47 :: r) [47] = 0 := by
  rw [Lib.index_one, Lib.indexByte]; simp
theorem split_cons_eq (r : List UInt8) : Lib.split (47 :: r) [47] = [] :: Lib.split r [47] := by
  unfold Lib.split
  rw [Lib.count_cons_eq, Nat.add_comm, Lib.splitK, index_cons_eq]
  rfl
theorem split_cons_ne (x : UInt8) (r : List UInt8) (h : x ≠ 47) : ∃ a t, Lib.split r [47] = a :: t ∧ Lib.split (x :: r) [47] = (x :: a) :: t := by
  unfold Lib.split
  rw [Lib.count_cons_ne x 47 r h]
  cases Lib.count r [47] with
  | zero => exact ⟨r, [], rfl, rfl⟩
  | succ k =>
    rw [Lib.splitK, Lib.splitK, index_cons_ne x r h]
    have hge := Lib.index_ge r [47]
    by_cases hm : Lib.index r [47] = -1
    · rw [hm]; exact ⟨r, [], rfl, rfl⟩
    · obtain ⟨i, hi⟩ : ∃ i : Nat, Lib.index r [47] = i := ⟨(Lib.index r [47]).toNat, by omega⟩
      rw [hi] at hm ⊢
      have e1 : (((i : Nat) : Int) == -1) = false := by rw [beq_eq_false_iff_ne]; omega
      have e2 : (((i : Nat) : Int) + 1 == -1) = false := by rw [beq_eq_false_iff_ne]; omega
      have e3 : (((i : Nat) : Int) + 1).toNat = i + 1 := by omega
      rw [if_neg (by rw [e1]; simp), if_neg (show ¬ ((i : Int) = -1) by omega), if_neg (by rw [e2]; simp), e3]
      exact ⟨_, _, rfl, by simp⟩
theorem split_eq : ∀ l : List UInt8, Lib.split l [47] = cutOn l
  | [] => rfl
  | x :: r => by
    by_cases h : x = 47
    · subst h
      rw [split_cons_eq, split_eq r]
      simp [cutOn]
    · obtain ⟨a, t, h1, h2⟩ := split_cons_ne x r h
      rw [h2]
      rw [split_eq r] at h1
      unfold cutOn
      rw [if_neg h, h1]
theorem cutOn_length : ∀ l : List UInt8, (cutOn l).length = l.count 47 + 1
  | [] => rfl
  | x :: r => by
    have ih := cutOn_length r
    unfold cutOn
    by_cases h : x = 47
    · subst h; simp [ih]
    · rw [if_neg h, List.count_cons_of_ne h]
      split
      · rename_i e; exact absurd e (cutOn_ne r)
      · rename_i e; rw [e] at ih; simpa using ih
theorem cutOn_join : ∀ l : List UInt8, Lib.join (cutOn l) [47] = l
  | [] => by simp [cutOn, Lib.join_one]
  | x :: r => by
    have ih := cutOn_join r
    unfold cutOn
    by_cases h : x = 47
    · subst h
      rw [if_pos rfl, Lib.join_cons]
      obtain ⟨a, t, e⟩ := List.exists_cons_of_ne_nil (cutOn_ne r)
      rw [e] at ih ⊢
      rw [Lib.join_cons] at ih
      simp [Lib.joinTail] at ih ⊢
      exact ih
    · rw [if_neg h]
      split
      · rename_i e; exact absurd e (cutOn_ne r)
      · rename_i e
        rw [e, Lib.join_cons] at ih
        rw [Lib.join_cons, List.cons_append, ih]
theorem cutOn_none : ∀ {l : List UInt8}, 47 ∉ l → cutOn l = [l]
  | [], _ => rfl
  | x :: r, h => by
    have hx : x ≠ 47 := by rintro rfl; simp at h
    have hr : 47 ∉ r := fun e => h (by simp [e])
    unfold cutOn
    rw [if_neg hx, cutOn_none hr]
theorem cutOn_snoc : ∀ {u t : List UInt8}, 47 ∉ t → cutOn (u ++ 47 :: t) = cutOn u ++ [t]
  | [], t, h => by
    show cutOn (47 :: t) = _
    unfold cutOn
    rw [if_pos rfl, cutOn_none h]
    rfl
  | x :: u, t, h => by
    have ih := cutOn_snoc (u := u) h
    show cutOn (x :: (u ++ 47 :: t)) = _
    unfold cutOn
    rw [ih]
    by_cases hx : x = 47
    · rw [if_pos hx, if_pos hx]; rfl
    · rw [if_neg hx, if_neg hx]
      obtain ⟨a, r, e⟩ := List.exists_cons_of_ne_nil (cutOn_ne u)
      rw [e]
      rfl
/-- What stands behind the last slash; what stands ahead of it. -/
def lastL (l : List UInt8) : List UInt8 := (l.reverse.takeWhile (· ≠ 47)).reverse
def upL (l : List UInt8) : List UInt8 := ((l.reverse.dropWhile (· ≠ 47)).drop 1).reverse
theorem rev_all {t : List UInt8} (h : 47 ∉ t) : ∀ x ∈ t.reverse, (decide (x ≠ 47)) = true := by
  intro x hx
  simp only [List.mem_reverse] at hx
  simp only [ne_eq, decide_eq_true_eq]
  rintro rfl
  exact h hx
theorem lastL_none {l : List UInt8} (h : 47 ∉ l) : lastL l = l := by
  unfold lastL
  have := List.takeWhile_append_of_pos (l₂ := []) (rev_all h)
  rw [List.append_nil, List.takeWhile_nil, List.append_nil] at this
  rw [this, List.reverse_reverse]
theorem upL_none {l : List UInt8} (h : 47 ∉ l) : upL l = [] := by
  unfold upL
  have := List.dropWhile_append_of_pos (l₂ := []) (rev_all h)
  rw [List.append_nil, List.dropWhile_nil] at this
  rw [this]
  rfl
theorem rev_cut (u t : List UInt8) (h : 47 ∉ t) : (u ++ 47 :: t).reverse.takeWhile (· ≠ 47) = t.reverse ∧ (u ++ 47 :: t).reverse.dropWhile (· ≠ 47) = 47 :: u.reverse := by
  have e : (u ++ 47 :: t).reverse = t.reverse ++ 47 :: u.reverse := by simp
  rw [e]
  rw [List.takeWhile_append_of_pos (rev_all h), List.dropWhile_append_of_pos (rev_all h)]
  simp
theorem lastL_snoc {u t : List UInt8} (h : 47 ∉ t) : lastL (u ++ 47 :: t) = t := by
  unfold lastL; rw [(rev_cut u t h).1, List.reverse_reverse]
theorem upL_snoc {u t : List UInt8} (h : 47 ∉ t) : upL (u ++ 47 :: t) = u := by
  unfold upL; rw [(rev_cut u t h).2]; simp
theorem parts (l : List UInt8) : 47 ∉ l ∨ ∃ u t, l = u ++ 47 :: t ∧ 47 ∉ t := by
  induction l with
  | nil => left; simp
  | cons x r ih =>
    rcases ih with h | ⟨u, t, rfl, h⟩
    · by_cases hx : x = 47
      · right; exact ⟨[], r, by simp [hx], h⟩
      · left; simp [Ne.symm hx, h]
    · right; exact ⟨x :: u, t, rfl, h⟩
/-- the place of the last slash -/
theorem last_at (s : ByteArray) : (Lib.lastIndexByte s 47 = -1 ∧ 47 ∉ s.data.toList) ∨ ∃ i : Nat, i < s.size ∧ Lib.lastIndexByte s 47 = i ∧ s.data.toList = s.data.toList.take i ++ 47 :: s.data.toList.drop (i + 1) ∧ 47 ∉ s.data.toList.drop (i + 1) := by
  have hsz := Lib.size_eq s
  have get : ∀ j (h : j < s.data.toList.length), s.data[j]! = s.data.toList[j] := fun j h => by rw [getElem!_pos s.data j (by simpa using h), Array.getElem_toList]
  rcases Lib.lastIndexByte_spec s 47 with ⟨h1, h2⟩ | ⟨i, h0, h1, h2, h3⟩
  · left
    refine ⟨h1, fun hm => ?_⟩
    obtain ⟨j, hj, e⟩ := List.getElem_of_mem hm
    have := h2 j (by omega)
    rw [get j hj, e] at this
    exact this rfl
  · right
    have hi : i < s.data.toList.length := by omega
    refine ⟨i, h0, h1, ?_, fun hm => ?_⟩
    · have hv : s.data.toList[i] = 47 := by
        rw [get i hi] at h2
        apply UInt8.toNat_inj.1
        show _ = 47
        omega
      have := List.drop_eq_getElem_cons hi
      rw [hv] at this
      rw [← this, List.take_append_drop]
    · obtain ⟨j, hj, e⟩ := List.getElem_of_mem hm
      rw [List.getElem_drop] at e
      have hj2 : i + 1 + j < s.data.toList.length := by simp at hj; omega
      have := h3 (i + 1 + j) (by omega) (by omega)
      rw [get _ hj2, e] at this
      exact this rfl
def parentL (l : List UInt8) : List UInt8 := if pathL l = true then upL l else []
def baseL (l : List UInt8) : List UInt8 := if pathL l = true then lastL l else []
end Go.Proofs.YtmpmmebmhffaeaaGreatDoor.NP
end
section
/- The order of paths, part by part, is the order that the code reckons byte by byte; and what is within a path, part by part. -/
namespace Go.Proofs.YtmpmmebmhffaeaaGreatDoor.NP
open Go

def cmpL : List UInt8 → List UInt8 → Int
  | [], [] => 0
  | [], _ :: _ => -1
  | _ :: _, [] => 1
  | x :: a, y :: b => if x.toNat < y.toNat then -1 else if y.toNat < x.toNat then 1 else cmpL a b
def cmpP : List (List UInt8) → List (List UInt8) → Int
  | [], [] => 0
  | [], _ :: _ => -1
  | _ :: _, [] => 1
  | x :: a, y :: b => if x = y then cmpP a b else cmpL x y
theorem ordL_cons (x y : UInt8) (a b : List UInt8) : ordL (x :: a) (y :: b) = if rk x < rk y then -1 else if rk y < rk x then 1 else ordL a b := rfl
theorem rk_lt {x y : UInt8} (hx : x ≠ 47) (hy : y ≠ 47) : rk x < rk y ↔ x.toNat < y.toNat := by
  unfold rk
  rw [if_neg hx, if_neg hy]
  exact ⟨fun h => by omega, fun h => by omega⟩
theorem rk_zero : rk 47 = 0 := rfl
theorem rk_pos {x : UInt8} (hx : x ≠ 47) : 0 < rk x := by unfold rk; rw [if_neg hx]; omega
def Ends (p : List UInt8) : Prop := p = [] ∨ ∃ r, p = 47 :: r
theorem ord_parts : ∀ (u v p q : List UInt8), 47 ∉ u → 47 ∉ v → u ≠ v → Ends p → Ends q → ordL (u ++ p) (v ++ q) = cmpL u v
  | [], [], _, _, _, _, h, _, _ => absurd rfl h
  | [], y :: v, p, q, _, hv, _, hp, _ => by
    have hy : y ≠ 47 := by rintro rfl; simp at hv
    rcases hp with rfl | ⟨r, rfl⟩
    · rfl
    · show ordL (47 :: r) (y :: (v ++ q)) = -1
      rw [ordL_cons, rk_zero, if_pos (rk_pos hy)]
  | x :: u, [], p, q, hu, _, _, _, hq => by
    have hx : x ≠ 47 := by rintro rfl; simp at hu
    rcases hq with rfl | ⟨r, rfl⟩
    · rfl
    · show ordL (x :: (u ++ p)) (47 :: r) = 1
      rw [ordL_cons, rk_zero, if_neg (by omega), if_pos (rk_pos hx)]
  | x :: u, y :: v, p, q, hu, hv, h, hp, hq => by
    have hx : x ≠ 47 := by rintro rfl; simp at hu
    have hy : y ≠ 47 := by rintro rfl; simp at hv
    have hu' : 47 ∉ u := fun e => hu (by simp [e])
    have hv' : 47 ∉ v := fun e => hv (by simp [e])
    show ordL (x :: (u ++ p)) (y :: (v ++ q)) = cmpL (x :: u) (y :: v)
    have k1 := rk_lt hx hy
    have k2 := rk_lt hy hx
    rw [ordL_cons, cmpL]
    by_cases h1 : x.toNat < y.toNat
    · rw [if_pos h1, if_pos (k1.2 h1)]
    · rw [if_neg h1, if_neg (fun e => h1 (k1.1 e))]
      by_cases h2 : y.toNat < x.toNat
      · rw [if_pos h2, if_pos (k2.2 h2)]
      · rw [if_neg h2, if_neg (fun e => h2 (k2.1 e))]
        have e : x = y := UInt8.toNat_inj.1 (by omega)
        subst e
        exact ord_parts u v p q hu' hv' (fun e => h (by rw [e])) hp hq
/-- a text: its first part, and what stands behind it -/
theorem first_part (l : List UInt8) : ∃ u p, l = u ++ p ∧ 47 ∉ u ∧ ((p = [] ∧ cutOn l = [u]) ∨ ∃ r, p = 47 :: r ∧ cutOn l = u :: cutOn r) := by
  induction l with
  | nil => exact ⟨[], [], rfl, by simp, .inl ⟨rfl, rfl⟩⟩
  | cons x r ih =>
    by_cases hx : x = 47
    · subst hx
      exact ⟨[], 47 :: r, rfl, by simp, .inr ⟨r, rfl, by rw [cutOn, if_pos rfl]⟩⟩
    · obtain ⟨u, p, rfl, hu, h⟩ := ih
      refine ⟨x :: u, p, rfl, by simp [Ne.symm hx, hu], ?_⟩
      rcases h with ⟨hp, hc⟩ | ⟨r, hp, hc⟩
      · exact .inl ⟨hp, by rw [cutOn, if_neg hx, hc]⟩
      · exact .inr ⟨r, hp, by rw [cutOn, if_neg hx, hc]⟩
theorem ord_cut : ∀ (n : Nat) (a b : List UInt8), a.length ≤ n → ordL a b = cmpP (cutOn a) (cutOn b)
  | n, a, b, hn => by
    obtain ⟨u, p, ea, hu, hp⟩ := first_part a
    obtain ⟨v, q, eb, hv, hq⟩ := first_part b
    have Ep : Ends p := by 
      rcases hp with ⟨h, _⟩ | ⟨r, h, _⟩
      · exact .inl h
      · exact .inr ⟨r, h⟩
    have Eq : Ends q := by 
      rcases hq with ⟨h, _⟩ | ⟨r, h, _⟩
      · exact .inl h
      · exact .inr ⟨r, h⟩
    by_cases huv : u = v
    · subst huv
      have h0 : ordL a b = ordL p q := by rw [ea, eb, ordL_append]
      rw [h0]
      rcases hp with ⟨rfl, hc⟩ | ⟨r, rfl, hc⟩ <;> rcases hq with ⟨rfl, hd⟩ | ⟨r', rfl, hd⟩
      · rw [hc, hd, cmpP, if_pos rfl]; rfl
      · rw [hc, hd, cmpP, if_pos rfl]
        obtain ⟨z, t, e⟩ := List.exists_cons_of_ne_nil (cutOn_ne r')
        rw [e]; rfl
      · rw [hc, hd, cmpP, if_pos rfl]
        obtain ⟨z, t, e⟩ := List.exists_cons_of_ne_nil (cutOn_ne r)
        rw [e]; rfl
      · rw [hc, hd, cmpP, if_pos rfl, ordL_cons, if_neg (by omega), if_neg (by omega)]
        match n, hn with
        | 0, hn => rw [ea] at hn; simp at hn
        | n + 1, hn => exact ord_cut n r r' (by rw [ea] at hn; simp at hn; omega)
    · have := ord_parts u v p q hu hv huv Ep Eq
      rw [← ea, ← eb] at this
      rw [this]
      have e1 : ∃ t, cutOn a = u :: t := by 
        rcases hp with ⟨_, h⟩ | ⟨r, _, h⟩
        · exact ⟨_, h⟩
        · exact ⟨_, h⟩
      have e2 : ∃ t, cutOn b = v :: t := by 
        rcases hq with ⟨_, h⟩ | ⟨r, _, h⟩
        · exact ⟨_, h⟩
        · exact ⟨_, h⟩
      obtain ⟨t, e1⟩ := e1
      obtain ⟨t', e2⟩ := e2
      rw [e1, e2, cmpP, if_neg huv]
theorem ordL_parts (a b : List UInt8) : ordL a b = cmpP (cutOn a) (cutOn b) := ord_cut a.length a b (Nat.le_refl _)
theorem cmpP_append : ∀ (p a b : List (List UInt8)), cmpP (p ++ a) (p ++ b) = cmpP a b
  | [], _, _ => rfl
  | x :: p, a, b => by
    simp only [List.cons_append]
    rw [cmpP, if_pos rfl]
    exact cmpP_append p a b
theorem cmpP_miss {a b : List (List UInt8)} {i : Nat} {x y : List UInt8} (h : a.take i = b.take i) (ha : a[i]? = some x) (hb : b[i]? = some y) (hne : x ≠ y) : cmpP a b = cmpL x y := by
  obtain ⟨hi, ha'⟩ := List.getElem?_eq_some_iff.1 ha
  obtain ⟨hj, hb'⟩ := List.getElem?_eq_some_iff.1 hb
  have ea : a = a.take i ++ x :: a.drop (i + 1) := by rw [← ha', ← List.drop_eq_getElem_cons hi, List.take_append_drop]
  have eb : b = a.take i ++ y :: b.drop (i + 1) := by rw [h, ← hb', ← List.drop_eq_getElem_cons hj, List.take_append_drop]
  rw [ea, eb, cmpP_append, cmpP, if_neg hne]
theorem cmpN_succ (m n : Nat) : cmpN (m + 1) (n + 1) = cmpN m n := by
  unfold cmpN
  repeat' split
  all_goals first | rfl | omega
theorem cmpP_end {a b : List (List UInt8)} {m : Nat} (hm : m = min a.length b.length) (h : a.take m = b.take m) : cmpP a b = cmpN a.length b.length := by
  have key : ∀ (a b : List (List UInt8)), a.take (min a.length b.length) = b.take (min a.length b.length) → cmpP a b = cmpN a.length b.length := by
    intro a
    induction a with
    | nil => intro b _; cases b <;> rfl
    | cons x a ih =>
      intro b hb
      cases b with
      | nil => rfl
      | cons y b =>
        have e : min (x :: a).length (y :: b).length = min a.length b.length + 1 := by simp only [List.length_cons]; omega
        rw [e, List.take_succ_cons, List.take_succ_cons] at hb
        injection hb with h1 h2
        rw [cmpP, if_pos h1, ih b h2]
        exact (cmpN_succ _ _).symm
  exact key a b (by rw [← hm]; exact h)

/- what is within a path -/
theorem cut_app : ∀ (q r : List UInt8), cutOn (q ++ 47 :: r) = cutOn q ++ cutOn r
  | [], r => by
    show cutOn (47 :: r) = [[]] ++ cutOn r
    simp [cutOn]
  | x :: q, r => by
    have ih := cut_app q r
    show cutOn (x :: (q ++ 47 :: r)) = _
    rw [cutOn, ih]
    by_cases hx : x = 47
    · rw [if_pos hx, cutOn, if_pos hx]; rfl
    · obtain ⟨a, t, e⟩ := List.exists_cons_of_ne_nil (cutOn_ne q)
      rw [if_neg hx, cutOn, if_neg hx, e]
      rfl
theorem join_app : ∀ {xs ys : List (List UInt8)}, xs ≠ [] → ys ≠ [] → Lib.join (xs ++ ys) [47] = Lib.join xs [47] ++ 47 :: Lib.join ys [47]
  | [], _, h, _ => absurd rfl h
  | x :: xs, ys, _, hy => by
    obtain ⟨y, t, rfl⟩ := List.exists_cons_of_ne_nil hy
    show Lib.join (x :: (xs ++ y :: t)) [47] = _
    rw [Lib.join_cons, Lib.join_cons, Lib.join_cons]
    simp [Lib.joinTail]
theorem path_pre {q r : List UInt8} (h : pathL (q ++ 47 :: r) = true) : pathL q = true := by
  unfold pathL at h ⊢
  simp only [Bool.and_eq_true, decide_eq_true_eq] at h ⊢
  obtain ⟨⟨h1, h2⟩, h3⟩ := h
  rw [split_eq, cut_app] at h3
  rw [split_eq]
  unfold allL at h3 ⊢
  rw [List.all_append, Bool.and_eq_true] at h3
  simp only [List.length_append, List.count_append] at h1 h2
  exact ⟨⟨by omega, by omega⟩, h3.1⟩
theorem within_parts {p q : List UInt8} (hp : pathL p = true) (hq : q ≠ []) : withinL p q = true ↔ pathL q = true ∧ cutOn q <+: cutOn p := by
  unfold withinL
  rw [hp, Bool.true_and, Bool.and_eq_true]
  unfold Lib.hasPrefix
  rw [List.isPrefixOf_iff_prefix]
  constructor
  · rintro ⟨⟨r, rfl⟩, hr⟩
    rw [List.drop_left] at hr
    unfold restOk at hr
    simp only [Bool.or_eq_true, decide_eq_true_eq] at hr
    rcases hr with (hr | hr) | hr
    · exact absurd hr hq
    · subst hr
      rw [List.append_nil] at hp ⊢
      exact ⟨hp, List.prefix_refl _⟩
    · cases r with
      | nil => simp at hr
      | cons z r =>
        simp only [List.head?_cons, Option.some.injEq] at hr
        subst hr
        exact ⟨path_pre hp, ⟨cutOn r, (cut_app q r).symm⟩⟩
  · rintro ⟨_, t, ht⟩
    have hj := cutOn_join p
    rw [← ht] at hj
    cases t with
    | nil =>
      rw [List.append_nil, cutOn_join] at hj
      subst hj
      exact ⟨List.prefix_refl _, by unfold restOk; simp⟩
    | cons y t =>
      rw [join_app (cutOn_ne q) (by simp), cutOn_join] at hj
      rw [← hj]
      refine ⟨⟨_, rfl⟩, ?_⟩
      rw [List.drop_left]
      unfold restOk
      simp
theorem within_root {p : List UInt8} (hp : pathL p = true) : withinL p [] = true := by
  unfold withinL Lib.hasPrefix restOk
  rw [hp]
  simp
theorem within_noq {p q : List UInt8} (hp : pathL p = true) (hq : q ≠ []) (h : pathL q = false) : withinL p q = false := by
  rw [Bool.eq_false_iff]
  intro e
  rw [((within_parts hp hq).1 e).1] at h
  cases h
theorem cut_inj {a b : List UInt8} (h : cutOn a = cutOn b) : a = b := by rw [← cutOn_join a, h, cutOn_join]
end Go.Proofs.YtmpmmebmhffaeaaGreatDoor.NP
end
section
/- Layer 6 over lists: what is within a path, what stands above it, in the order of paths (no program is read here). -/
namespace Go.Proofs.YtmpmmebmhffaeaaGreatDoor.TP
open Go NP

/-- A path counted from another one; that one itself, if it is empty. -/
def place (p q : List UInt8) : List UInt8 := if q = [] then p else p ++ 47 :: q
theorem place_nil (p : List UInt8) : place p [] = p := if_pos rfl
theorem place_ne (p : List UInt8) {q : List UInt8} (h : q ≠ []) : place p q = p ++ 47 :: q := if_neg h
theorem name_nil : nameL [] = false := rfl
theorem path_nil : pathL [] = false := rfl
theorem path_ne {p : List UInt8} (h : pathL p = true) : p ≠ [] := fun e => by rw [e, path_nil] at h; cases h
theorem path_iff (p : List UInt8) : pathL p = true ↔ p.length ≤ 400 ∧ p.count 47 < 16 ∧ allL (cutOn p) = true := by
  unfold pathL
  rw [split_eq]
  simp only [Bool.and_eq_true, decide_eq_true_eq]
  constructor
  · rintro ⟨⟨a, b⟩, c⟩; exact ⟨a, b, c⟩
  · rintro ⟨a, b, c⟩; exact ⟨⟨a, b⟩, c⟩
theorem allL_app (a b : List (List UInt8)) : allL (a ++ b) = (allL a && allL b) := by unfold allL; rw [List.all_append]
theorem path_tail {p r : List UInt8} (h : pathL (p ++ 47 :: r) = true) : pathL r = true := by
  rw [path_iff] at h ⊢
  obtain ⟨h1, h2, h3⟩ := h
  rw [cut_app, allL_app, Bool.and_eq_true] at h3
  simp only [List.length_append, List.length_cons, List.count_append, List.count_cons] at h1 h2
  exact ⟨by omega, by omega, h3.2⟩
theorem path_tail_ne {p r : List UInt8} (h : pathL (p ++ 47 :: r) = true) : r ≠ [] := path_ne (path_tail h)
theorem within_iff {n p : List UInt8} (hn : pathL n = true) (hp : p ≠ []) : withinL n p = true ↔ ∃ q, n = place p q := by
  unfold withinL Lib.hasPrefix
  rw [hn, Bool.true_and, Bool.and_eq_true, List.isPrefixOf_iff_prefix]
  constructor
  · rintro ⟨⟨r, rfl⟩, hr⟩
    rw [List.drop_left] at hr
    unfold restOk at hr
    simp only [Bool.or_eq_true, decide_eq_true_eq] at hr
    rcases hr with (hr | hr) | hr
    · exact absurd hr hp
    · subst hr
      exact ⟨[], by rw [place_nil, List.append_nil]⟩
    · cases r with
      | nil => simp at hr
      | cons z r =>
        simp only [List.head?_cons, Option.some.injEq] at hr
        subst hr
        exact ⟨r, by rw [place_ne p (path_tail_ne hn)]⟩
  · rintro ⟨q, rfl⟩
    by_cases hq : q = []
    · rw [hq, place_nil]
      exact ⟨List.prefix_refl _, by unfold restOk; simp⟩
    · rw [place_ne p hq]
      refine ⟨⟨_, rfl⟩, ?_⟩
      rw [List.drop_left]
      unfold restOk
      simp
theorem within_self {p : List UInt8} (h : pathL p = true) : withinL p p = true := (within_iff h (path_ne h)).2 ⟨[], (place_nil p).symm⟩
theorem within_path {n p : List UInt8} (h : withinL n p = true) : pathL n = true := by
  unfold withinL at h
  simp only [Bool.and_eq_true] at h
  exact h.1
theorem place_inj {p a b : List UInt8} (h : place p a = place p b) : a = b := by
  unfold place at h
  by_cases ha : a = []
  · rw [if_pos ha] at h
    by_cases hb : b = []
    · rw [ha, hb]
    · rw [if_neg hb] at h
      have := congrArg List.length h
      simp at this
  · rw [if_neg ha] at h
    by_cases hb : b = []
    · rw [if_pos hb] at h
      have := congrArg List.length h
      simp at this
    · rw [if_neg hb] at h
      have := List.append_cancel_left h
      simpa using this
theorem place_place (p a b : List UInt8) (ha : a ≠ []) : place p (place a b) = place (place p a) b := by
  by_cases hb : b = []
  · rw [hb, place_nil, place_nil]
  · have h1 : a ++ 47 :: b ≠ [] := by simp
    rw [place_ne a hb, place_ne p h1, place_ne p ha, place_ne _ hb]
    simp
/- what stands above -/
theorem up_cases (n : List UInt8) : (47 ∉ n ∧ upL n = [] ∧ lastL n = n) ∨ ∃ u t, n = u ++ 47 :: t ∧ 47 ∉ t ∧ upL n = u ∧ lastL n = t := by
  rcases parts n with h | ⟨u, t, rfl, h⟩
  · exact .inl ⟨h, upL_none h, lastL_none h⟩
  · exact .inr ⟨u, t, rfl, h, upL_snoc h, lastL_snoc h⟩
theorem up_last (n : List UInt8) (hn : pathL n = true) : n = if upL n = [] then lastL n else upL n ++ 47 :: lastL n := by
  rcases up_cases n with ⟨_, h1, h2⟩ | ⟨u, t, rfl, _, h1, h2⟩
  · rw [h1, if_pos rfl, h2]
  · rw [h1, h2, if_neg (path_ne (path_pre hn))]
theorem last_no (n : List UInt8) : 47 ∉ lastL n := by
  rcases up_cases n with ⟨h, _, h2⟩ | ⟨u, t, rfl, h, _, h2⟩
  · rw [h2]; exact h
  · rw [h2]; exact h
theorem up_short {n : List UInt8} (h : n ≠ []) : (upL n).length < n.length := by
  rcases up_cases n with ⟨_, h1, _⟩ | ⟨u, t, rfl, _, h1, _⟩
  · rw [h1]; exact List.length_pos_iff.2 h
  · rw [h1]; simp
theorem up_path {n : List UInt8} (hn : pathL n = true) (h : upL n ≠ []) : pathL (upL n) = true ∧ withinL n (upL n) = true := by
  rcases up_cases n with ⟨_, h1, _⟩ | ⟨u, t, rfl, _, h1, _⟩
  · exact absurd h1 h
  · rw [h1]
    refine ⟨path_pre hn, (within_iff hn (path_ne (path_pre hn))).2 ⟨t, (place_ne u (path_tail_ne hn)).symm⟩⟩
theorem up_place {p q : List UInt8} (hq : q ≠ []) (h : pathL (place p q) = true) : upL (place p q) = place p (upL q) := by
  rw [place_ne p hq] at h ⊢
  rcases up_cases q with ⟨h0, h1, _⟩ | ⟨u, t, rfl, h0, h1, _⟩
  · rw [h1, place_nil, upL_snoc h0]
  · have hu : u ≠ [] := path_ne (path_pre (path_tail h))
    rw [h1, place_ne p hu]
    have e : p ++ 47 :: (u ++ 47 :: t) = (p ++ 47 :: u) ++ 47 :: t := by simp
    rw [e, upL_snoc h0]
theorem last_place {p q : List UInt8} (hq : q ≠ []) : lastL (place p q) = lastL q := by
  rw [place_ne p hq]
  rcases up_cases q with ⟨h0, _, h2⟩ | ⟨u, t, rfl, h0, _, h2⟩
  · rw [h2, lastL_snoc h0]
  · rw [h2]
    have e : p ++ 47 :: (u ++ 47 :: t) = (p ++ 47 :: u) ++ 47 :: t := by simp
    rw [e, lastL_snoc h0]
/-- Below a path, what stands above is within it too. -/
theorem within_up {n p : List UInt8} (hw : withinL n p = true) (hp : p ≠ []) (hne : n ≠ p) : upL n ≠ [] ∧ withinL (upL n) p = true ∧ pathL (upL n) = true := by
  have hn := within_path hw
  obtain ⟨q, e⟩ := (within_iff hn hp).1 hw
  have hq : q ≠ [] := fun h => hne (by rw [e, h, place_nil])
  rw [e] at hn
  have e2 := up_place hq hn
  rw [← e] at e2 hn
  have hu : upL n ≠ [] := by
    rw [e2]
    unfold place
    split
    · exact hp
    · simp
  have hpu := (up_path hn hu).1
  exact ⟨hu, (within_iff hpu hp).2 ⟨_, e2⟩, hpu⟩
theorem within_of_up {n p : List UInt8} (hn : pathL n = true) (hp : p ≠ []) (hu : upL n ≠ []) (h : withinL (upL n) p = true) : withinL n p = true := by
  obtain ⟨hpu, _⟩ := up_path hn hu
  obtain ⟨q, e⟩ := (within_iff hpu hp).1 h
  have hl := up_last n hn
  rw [if_neg hu, e] at hl
  refine (within_iff hn hp).2 ?_
  by_cases hq : q = []
  · rw [hq, place_nil] at hl
    refine ⟨lastL n, ?_⟩
    rw [place_ne p ?_]
    · exact hl
    · rw [hl] at hn; exact path_tail_ne hn
  · rw [place_ne p hq] at hl
    refine ⟨q ++ 47 :: lastL n, ?_⟩
    rw [place_ne p (by simp)]
    exact hl.trans (by simp)
theorem within_trans {a b c : List UInt8} (h1 : withinL a b = true) (hb : b ≠ []) (h2 : withinL b c = true) (hc : c ≠ []) : withinL a c = true := by
  have ha := within_path h1
  obtain ⟨q, e⟩ := (within_iff ha hb).1 h1
  obtain ⟨r, e2⟩ := (within_iff (within_path h2) hc).1 h2
  refine (within_iff ha hc).2 ?_
  by_cases hr : r = []
  · rw [hr, place_nil] at e2
    exact ⟨q, by rw [e, e2]⟩
  · exact ⟨place r q, by rw [e, e2, place_place c r q hr]⟩
/- the order -/
theorem ord_place (p a b : List UInt8) : ordL (place p a) (place p b) = ordL a b := by
  by_cases ha : a = []
  · subst ha
    rw [place_nil]
    by_cases hb : b = []
    · subst hb; rw [place_nil]; exact (ordL_zero p p).2 rfl
    · rw [place_ne p hb]
      have := ordL_append p [] (47 :: b)
      rw [List.append_nil] at this
      rw [this]
      obtain ⟨x, r, rfl⟩ := List.exists_cons_of_ne_nil hb
      rfl
  · rw [place_ne p ha]
    by_cases hb : b = []
    · subst hb
      rw [place_nil]
      have := ordL_append p (47 :: a) []
      rw [List.append_nil] at this
      rw [this]
      obtain ⟨x, r, rfl⟩ := List.exists_cons_of_ne_nil ha
      rfl
    · rw [place_ne p hb, ordL_append]
      show ordL ([47] ++ a) ([47] ++ b) = _
      exact ordL_append [47] a b
theorem ord_nil (a : List UInt8) : ordL [] a ≤ 0 := by
  cases a with
  | nil => decide
  | cons x r => show (-1 : Int) ≤ 0; decide
theorem ord_below {n p : List UInt8} (hp : p ≠ []) (h : withinL n p = true) : ordL p n ≤ 0 := by
  obtain ⟨q, rfl⟩ := (within_iff (within_path h) hp).1 h
  have := ord_place p [] q
  rw [place_nil] at this
  rw [this]
  exact ord_nil q
theorem ord_neg {a b : List UInt8} (h : ordL a b < 0) : ¬ ordL b a < 0 := by
  have := ordL_swap a b
  omega
theorem ord_irr (a : List UInt8) : ¬ ordL a a < 0 := by
  have := (ordL_zero a a).2 rfl
  omega
theorem ord_lt {a b c : List UInt8} (h : ordL a b < 0) (k : ordL b c < 0) : ordL a c < 0 := ordL_lt h (Int.le_of_lt k)
theorem ord_le {a b c : List UInt8} (h : ordL a b ≤ 0) (k : ordL b c < 0) : ordL a c < 0 := by
  rcases ordL_cases a b with e | e | e
  · exact ord_lt (by omega) k
  · rw [(ordL_zero a b).1 e]; exact k
  · omega
theorem ord_tri (a b : List UInt8) : ordL a b < 0 ∨ a = b ∨ ordL b a < 0 := by
  rcases ordL_cases a b with e | e | e
  · exact .inl (by omega)
  · exact .inr (.inl ((ordL_zero a b).1 e))
  · exact .inr (.inr (by have := ordL_swap a b; omega))
/-- What isn't within a path but stands behind it, stands behind all that is within it. -/
theorem ord_behind {n c p : List UInt8} (hp : pathL p = true) (hn : pathL n = true) (hno : withinL n p = false) (hc : withinL c p = true) (h : ¬ ordL n p < 0) : ordL c n < 0 := by
  have hpn : ordL p n < 0 := by
    rcases ord_tri n p with e | e | e
    · exact absurd e h
    · rw [e, within_self hp] at hno; cases hno
    · exact e
  rcases ord_tri c n with e | e | e
  · exact e
  · rw [← e, hc] at hno; cases hno
  · rw [between hn hc hpn e] at hno; cases hno
/-- What stands ahead of a path, stands ahead of all that is within it. -/
theorem ord_ahead {n c p : List UInt8} (hp : p ≠ []) (hc : withinL c p = true) (h : ordL n p < 0) : ordL n c < 0 := ordL_lt h (ord_below hp hc)
end Go.Proofs.YtmpmmebmhffaeaaGreatDoor.TP
end
section
/- Layer 6 over lists: nodes, trees, values; what stands at a path, and a tree with another value put there (no program is read here). -/
namespace Go.Proofs.YtmpmmebmhffaeaaGreatDoor.TP
open Go NP

structure Nd where
  path : List UInt8
  kind : Int
  data : List UInt8
  mode : Int
  deriving DecidableEq
def rightB (n : Nd) : Bool :=
  if n.kind = 1 then decide (n.data.length ≤ 65536) && decide (0 ≤ n.mode) && decide (n.mode ≤ 511)
  else if n.kind = 2 then decide (n.data = []) && decide (n.mode = 0)
  else if n.kind = 3 then !(n.data.contains 0) && decide (1 ≤ n.data.length) && decide (n.data.length ≤ 400) && decide (n.mode = 0)
  else false
def findN (t : List Nd) (p : List UInt8) : Option Nd := t.find? fun n => decide (n.path = p)
def dirB (t : List Nd) (p : List UInt8) : Bool := decide (p = []) || (match findN t p with | some n => decide (n.kind = 2) | none => false)
def chainB : List Nd → Bool
  | a :: b :: r => decide (ordL a.path b.path < 0) && chainB (b :: r)
  | _ => true
def nodeB (t : List Nd) (n : Nd) : Bool := pathL n.path && rightB n && dirB t (parentL n.path)
def treeB (t : List Nd) : Bool := decide (t.length ≤ 1000) && t.all (nodeB t) && chainB t
def rightV : List Nd → Bool
  | [] => true
  | h :: r => decide (h.path = []) && rightB h && decide (r.length + 1 ≤ 1000) && (decide (r = []) || (decide (h.kind = 2) && treeB r))
def placeN (p : List UInt8) (n : Nd) : Nd := { n with path := place p n.path }
def cutN (p : List UInt8) (n : Nd) : Nd := { n with path := if n.path = p then [] else n.path.drop (p.length + 1) }
def root : Nd := ⟨[], 2, [], 0⟩
def atL (t : List Nd) (p : List UInt8) : List Nd :=
  if treeB t = true then (if p = [] then root :: t else (t.filter fun n => withinL n.path p).map (cutN p)) else []
def getL (t : List Nd) (p : List UInt8) : Option Nd := if treeB t = true then findN t p else none
def outL (t : List Nd) (p : List UInt8) (v : List Nd) : List Nd :=
  (t.filter fun n => !withinL n.path p && decide (ordL n.path p < 0)) ++ (v.map (placeN p) ++ t.filter fun n => !withinL n.path p && !decide (ordL n.path p < 0))
def putL (t : List Nd) (p : List UInt8) (v : List Nd) : List Nd × Nat :=
  if treeB t = false ∨ rightV v = false then ([], 60)
  else if pathL p = false then ([], 11)
  else if v ≠ [] ∧ dirB t (parentL p) = false then ([], 62)
  else if (v.all fun n => pathL (place p n.path)) = false then ([], 11)
  else if 1000 < (outL t p v).length then ([], 32)
  else (outL t p v, 0)

/- sorted lists -/
def lt (a b : Nd) : Prop := ordL a.path b.path < 0
def Sorted (t : List Nd) : Prop := t.Pairwise lt
theorem chain_iff : ∀ t : List Nd, chainB t = true ↔ Sorted t
  | [] => ⟨fun _ => List.Pairwise.nil, fun _ => rfl⟩
  | [a] => ⟨fun _ => List.pairwise_singleton _ _, fun _ => rfl⟩
  | a :: b :: r => by
    have ih := chain_iff (b :: r)
    rw [chainB, Bool.and_eq_true, decide_eq_true_eq, ih]
    constructor
    · rintro ⟨h1, h2⟩
      refine List.Pairwise.cons (fun c hc => ?_) h2
      rcases List.mem_cons.1 hc with rfl | hc
      · exact h1
      · exact ord_lt h1 (List.rel_of_pairwise_cons h2 hc)
    · intro h
      exact ⟨List.rel_of_pairwise_cons h (List.mem_cons_self ..), List.Pairwise.of_cons h⟩
theorem sorted_ext : ∀ {a b : List Nd}, Sorted a → Sorted b → (∀ n, n ∈ a ↔ n ∈ b) → a = b
  | [], [], _, _, _ => rfl
  | [], y :: b, _, _, h => absurd ((h y).2 (List.mem_cons_self ..)) (by simp)
  | x :: a, [], _, _, h => absurd ((h x).1 (List.mem_cons_self ..)) (by simp)
  | x :: a, y :: b, ha, hb, h => by
    have exy : x = y := by
      rcases List.mem_cons.1 ((h x).1 (List.mem_cons_self ..)) with e | e
      · exact e
      · rcases List.mem_cons.1 ((h y).2 (List.mem_cons_self ..)) with e2 | e2
        · exact e2.symm
        · exact absurd (List.rel_of_pairwise_cons ha e2) (ord_neg (List.rel_of_pairwise_cons hb e))
    subst exy
    rw [sorted_ext (List.Pairwise.of_cons ha) (List.Pairwise.of_cons hb) fun n => ?_]
    constructor
    · intro hn
      rcases List.mem_cons.1 ((h n).1 (List.mem_cons_of_mem _ hn)) with e | e
      · subst e; exact absurd (List.rel_of_pairwise_cons ha hn) (ord_irr _)
      · exact e
    · intro hn
      rcases List.mem_cons.1 ((h n).2 (List.mem_cons_of_mem _ hn)) with e | e
      · subst e; exact absurd (List.rel_of_pairwise_cons hb hn) (ord_irr _)
      · exact e
theorem sorted_one : ∀ {t : List Nd}, Sorted t → ∀ {a b : Nd}, a ∈ t → b ∈ t → a.path = b.path → a = b
  | [], _, a, _, ha, _, _ => by simp at ha
  | x :: r, h, a, b, ha, hb, e => by
    rcases List.mem_cons.1 ha with h1 | h1
    · rcases List.mem_cons.1 hb with h2 | h2
      · rw [h1, h2]
      · have h3 : lt x b := List.rel_of_pairwise_cons h h2
        unfold lt at h3
        rw [← h1, e] at h3
        exact absurd h3 (ord_irr _)
    · rcases List.mem_cons.1 hb with h2 | h2
      · have h3 : lt x a := List.rel_of_pairwise_cons h h1
        unfold lt at h3
        rw [← h2, e] at h3
        exact absurd h3 (ord_irr _)
      · exact sorted_one (List.Pairwise.of_cons h) h1 h2 e
theorem sorted_filter {t : List Nd} (h : Sorted t) (f : Nd → Bool) : Sorted (t.filter f) := List.Pairwise.filter f h

/- what a tree is -/
def Dir (t : List Nd) (p : List UInt8) : Prop := p = [] ∨ ∃ d ∈ t, d.path = p ∧ d.kind = 2
theorem find_mem {t : List Nd} {p : List UInt8} {n : Nd} (h : findN t p = some n) : n ∈ t ∧ n.path = p := by
  unfold findN at h
  have h1 := List.find?_some h
  simp at h1
  exact ⟨List.mem_of_find?_eq_some h, h1⟩
theorem find_of {t : List Nd} (hs : Sorted t) {n : Nd} (h : n ∈ t) : findN t n.path = some n := by
  cases hf : findN t n.path with
  | none =>
    unfold findN at hf
    rw [List.find?_eq_none] at hf
    have := hf n h
    simp at this
  | some m =>
    obtain ⟨h1, h2⟩ := find_mem hf
    rw [sorted_one hs h1 h h2]
theorem dir_iff {t : List Nd} (hs : Sorted t) (p : List UInt8) : dirB t p = true ↔ Dir t p := by
  unfold dirB Dir
  rw [Bool.or_eq_true, decide_eq_true_eq]
  refine or_congr Iff.rfl ?_
  constructor
  · intro h
    cases hf : findN t p with
    | none => rw [hf] at h; cases h
    | some n =>
      rw [hf] at h
      simp at h
      exact ⟨n, (find_mem hf).1, (find_mem hf).2, h⟩
  · rintro ⟨d, hd, rfl, hk⟩
    rw [find_of hs hd]
    simpa using hk
structure Tree (t : List Nd) : Prop where
  len : t.length ≤ 1000
  sorted : Sorted t
  path : ∀ n ∈ t, pathL n.path = true
  right : ∀ n ∈ t, rightB n = true
  dir : ∀ n ∈ t, Dir t (upL n.path)
theorem tree_iff (t : List Nd) : treeB t = true ↔ Tree t := by
  unfold treeB
  rw [Bool.and_eq_true, Bool.and_eq_true, decide_eq_true_eq, chain_iff, List.all_eq_true]
  constructor
  · rintro ⟨⟨h1, h2⟩, h3⟩
    have h4 : ∀ n ∈ t, pathL n.path = true ∧ rightB n = true ∧ dirB t (parentL n.path) = true := fun n hn => by
      have := h2 n hn
      unfold nodeB at this
      rw [Bool.and_eq_true, Bool.and_eq_true] at this
      exact ⟨this.1.1, this.1.2, this.2⟩
    refine ⟨h1, h3, fun n hn => (h4 n hn).1, fun n hn => (h4 n hn).2.1, fun n hn => ?_⟩
    have := (h4 n hn).2.2
    rw [show parentL n.path = upL n.path by unfold parentL; rw [if_pos (h4 n hn).1]] at this
    exact (dir_iff h3 _).1 this
  · intro h
    refine ⟨⟨h.len, fun n hn => ?_⟩, h.sorted⟩
    unfold nodeB
    rw [h.path n hn, h.right n hn, show parentL n.path = upL n.path by unfold parentL; rw [if_pos (h.path n hn)], (dir_iff h.sorted _).2 (h.dir n hn)]
    rfl
theorem tree_nil : Tree [] := ⟨by simp, List.Pairwise.nil, by simp, by simp, by simp⟩
/-- What stands below a path: that path is a directory of the tree. -/
theorem tree_above {t : List Nd} (ht : Tree t) {p : List UInt8} (hp : p ≠ []) : ∀ (k : Nat) (n : Nd), n.path.length ≤ k → n ∈ t → withinL n.path p = true → n.path ≠ p → ∃ d ∈ t, d.path = p ∧ d.kind = 2
  | 0, n, hk, hn, _, _ => absurd (List.eq_nil_of_length_eq_zero (by omega)) (path_ne (ht.path n hn))
  | k + 1, n, hk, hn, hw, hne => by
    obtain ⟨hu, hw2, _⟩ := within_up hw hp hne
    rcases ht.dir n hn with e | ⟨d, hd, e, hk2⟩
    · exact absurd e hu
    · by_cases hdp : d.path = p
      · exact ⟨d, hd, hdp, hk2⟩
      · refine tree_above ht hp k d ?_ hd (by rw [e]; exact hw2) hdp
        have := up_short (path_ne (ht.path n hn))
        rw [e]
        omega
end Go.Proofs.YtmpmmebmhffaeaaGreatDoor.TP
end
section
/- Layer 6 over lists: what is put is there, and all else is as it was (no program is read here). -/
namespace Go.Proofs.YtmpmmebmhffaeaaGreatDoor.TP
open Go NP

theorem up_lt {n : List UInt8} (hn : pathL n = true) : ordL (upL n) n < 0 := by
  have h0 := path_ne hn
  by_cases hu : upL n = []
  · rw [hu]
    obtain ⟨x, r, rfl⟩ := List.exists_cons_of_ne_nil h0
    show (-1 : Int) < 0
    decide
  · obtain ⟨hp, hw⟩ := up_path hn hu
    have h1 := ord_below hu hw
    rcases ord_tri (upL n) n with e | e | e
    · exact e
    · have := up_short h0
      rw [e] at this
      omega
    · have := ordL_swap n (upL n)
      omega
theorem nil_lt {n : List UInt8} (h : n ≠ []) : ordL [] n < 0 := by
  obtain ⟨x, r, rfl⟩ := List.exists_cons_of_ne_nil h
  show (-1 : Int) < 0
  decide
/-- What a value is. -/
structure Val (v : List Nd) : Prop where
  sorted : Sorted v
  len : v.length ≤ 1000
  right : ∀ m ∈ v, rightB m = true
  path : ∀ m ∈ v, m.path = [] ∨ pathL m.path = true
  dir : ∀ m ∈ v, m.path ≠ [] → ∃ d ∈ v, d.path = upL m.path ∧ d.kind = 2
theorem Val.nil : Val [] := ⟨List.Pairwise.nil, by simp, by simp, by simp, by simp⟩
theorem val_iff (v : List Nd) : rightV v = true ↔ Val v := by
  cases v with
  | nil => exact ⟨fun _ => Val.nil, fun _ => rfl⟩
  | cons h r =>
    unfold rightV
    simp only [Bool.and_eq_true, Bool.or_eq_true, decide_eq_true_eq]
    constructor
    · rintro ⟨⟨⟨h1, h2⟩, h3⟩, h4⟩
      have key : r = [] ∨ h.kind = 2 ∧ Tree r := h4.imp id fun e => ⟨e.1, (tree_iff r).1 e.2⟩
      rcases key with rfl | ⟨hk, ht⟩
      · refine ⟨List.pairwise_singleton _ _, by simp, fun m hm => ?_, fun m hm => ?_, fun m hm hne => ?_⟩
        · simp at hm; rw [hm]; exact h2
        · simp at hm; rw [hm]; exact .inl h1
        · simp at hm; rw [hm] at hne; exact absurd h1 hne
      · refine ⟨List.Pairwise.cons (fun m hm => ?_) ht.sorted, h3, fun m hm => ?_, fun m hm => ?_, fun m hm hne => ?_⟩
        · unfold lt; rw [h1]; exact nil_lt (path_ne (ht.path m hm))
        · rcases List.mem_cons.1 hm with rfl | hm
          · exact h2
          · exact ht.right m hm
        · rcases List.mem_cons.1 hm with rfl | hm
          · exact .inl h1
          · exact .inr (ht.path m hm)
        · rcases List.mem_cons.1 hm with rfl | hm
          · exact absurd h1 hne
          · rcases ht.dir m hm with e | ⟨d, hd, e1, e2⟩
            · exact ⟨h, List.mem_cons_self .., by rw [h1, e], hk⟩
            · exact ⟨d, List.mem_cons_of_mem _ hd, e1, e2⟩
    · intro hv
      have hs := hv.sorted
      have h1 : h.path = [] := by
        by_cases e : h.path = []
        · exact e
        · exfalso
          obtain ⟨d, hd, e1, _⟩ := hv.dir h (List.mem_cons_self ..) e
          have hp : pathL h.path = true := (hv.path h (List.mem_cons_self ..)).resolve_left e
          have hlt := up_lt hp
          rw [← e1] at hlt
          rcases List.mem_cons.1 hd with rfl | hd
          · exact ord_irr _ hlt
          · exact ord_neg (List.rel_of_pairwise_cons hs hd) hlt
      have hne : ∀ m ∈ r, m.path ≠ [] := fun m hm e => by
        have : lt h m := List.rel_of_pairwise_cons hs hm
        unfold lt at this
        rw [h1, e] at this
        exact ord_irr _ this
      have ht : Tree r := ⟨by have := hv.len; simp at this; omega, List.Pairwise.of_cons hs, fun m hm => (hv.path m (List.mem_cons_of_mem _ hm)).resolve_left (hne m hm), fun m hm => hv.right m (List.mem_cons_of_mem _ hm), fun m hm => by
        obtain ⟨d, hd, e1, e2⟩ := hv.dir m (List.mem_cons_of_mem _ hm) (hne m hm)
        rcases List.mem_cons.1 hd with rfl | hd
        · exact .inl (by rw [← e1, h1])
        · exact .inr ⟨d, hd, e1, e2⟩⟩
      refine ⟨⟨⟨h1, hv.right h (List.mem_cons_self ..)⟩, hv.len⟩, ?_⟩
      cases r with
      | nil => exact .inl rfl
      | cons m r =>
        refine .inr ⟨?_, (tree_iff _).2 ht⟩
        obtain ⟨d, hd, e1, e2⟩ := hv.dir m (by simp) (hne m (by simp))
        have hlt := up_lt (ht.path m (by simp))
        rw [← e1] at hlt
        rcases List.mem_cons.1 hd with rfl | hd
        · exact e2
        · exfalso
          rcases List.mem_cons.1 hd with rfl | hd
          · exact ord_irr _ hlt
          · exact ord_neg (List.rel_of_pairwise_cons ht.sorted hd) hlt
theorem Val.head {v : List Nd} (h : Val v) (h0 : v ≠ []) : ∃ m ∈ v, m.path = [] := by
  have h1 := (val_iff v).2 h
  cases v with
  | nil => exact absurd rfl h0
  | cons m r =>
    unfold rightV at h1
    simp only [Bool.and_eq_true, decide_eq_true_eq] at h1
    exact ⟨m, List.mem_cons_self .., h1.1.1.1⟩
theorem Val.below {v : List Nd} (h : Val v) {m : Nd} (hm : m ∈ v) (hne : m.path ≠ []) : pathL m.path = true := (h.path m hm).resolve_left hne

/- to place and to cut -/
theorem placeN_inj {p : List UInt8} {a b : Nd} (h : placeN p a = placeN p b) : a = b := by
  unfold placeN at h
  cases a; cases b
  simp only [Nd.mk.injEq] at h ⊢
  exact ⟨place_inj h.1, h.2⟩
theorem cut_place (p : List UInt8) (n : Nd) : cutN p (placeN p n) = n := by
  unfold cutN placeN
  cases n with
  | mk q k d m =>
    simp only [Nd.mk.injEq, and_true]
    by_cases hq : q = []
    · rw [hq, place_nil, if_pos rfl]
    · rw [place_ne p hq, if_neg (fun e => by have := congrArg List.length e; simp at this), show p.length + 1 = (p ++ [47]).length by simp, show p ++ 47 :: q = (p ++ [47]) ++ q by simp, List.drop_left]
theorem place_within {p : List UInt8} (hp : p ≠ []) {n : Nd} (h : pathL (place p n.path) = true) : withinL (placeN p n).path p = true := (within_iff h hp).2 ⟨_, rfl⟩
theorem within_place {p : List UInt8} (hp : p ≠ []) {y : Nd} (h : withinL y.path p = true) : ∃ n, y = placeN p n := by
  obtain ⟨q, e⟩ := (within_iff (within_path h) hp).1 h
  exact ⟨{ y with path := q }, by unfold placeN; cases y; simp_all⟩

/- what stands at a path -/
theorem at_mem {t : List Nd} (ht : Tree t) {p : List UInt8} (hp : pathL p = true) (n : Nd) : n ∈ atL t p ↔ placeN p n ∈ t := by
  unfold atL
  rw [if_pos ((tree_iff t).2 ht), if_neg (path_ne hp), List.mem_map]
  constructor
  · rintro ⟨y, hy, rfl⟩
    rw [List.mem_filter] at hy
    obtain ⟨m, rfl⟩ := within_place (path_ne hp) hy.2
    rw [cut_place]
    exact hy.1
  · intro h
    exact ⟨placeN p n, List.mem_filter.2 ⟨h, place_within (path_ne hp) (ht.path _ h)⟩, cut_place p n⟩
theorem at_sorted {t : List Nd} (ht : Tree t) {p : List UInt8} (hp : pathL p = true) : Sorted (atL t p) := by
  unfold atL
  rw [if_pos ((tree_iff t).2 ht), if_neg (path_ne hp)]
  unfold Sorted
  rw [List.pairwise_map]
  refine List.Pairwise.imp_of_mem (fun {a b} ha hb hlt => ?_) (sorted_filter ht.sorted _)
  rw [List.mem_filter] at ha hb
  obtain ⟨m, rfl⟩ := within_place (path_ne hp) ha.2
  obtain ⟨k, rfl⟩ := within_place (path_ne hp) hb.2
  unfold lt at hlt ⊢
  rw [cut_place, cut_place]
  have e := ord_place p m.path k.path
  rw [← e]
  exact hlt
theorem at_val {t : List Nd} (ht : Tree t) {p : List UInt8} (hp : pathL p = true) : Val (atL t p) := by
  have hp0 := path_ne hp
  refine ⟨at_sorted ht hp, ?_, fun m hm => ?_, fun m hm => ?_, fun m hm hne => ?_⟩
  · unfold atL
    rw [if_pos ((tree_iff t).2 ht), if_neg hp0, List.length_map]
    exact Nat.le_trans (List.length_filter_le _ _) ht.len
  · have := ht.right _ ((at_mem ht hp m).1 hm)
    exact this
  · by_cases e : m.path = []
    · exact .inl e
    · have := ht.path _ ((at_mem ht hp m).1 hm)
      unfold placeN at this
      rw [place_ne p e] at this
      exact .inr (path_tail this)
  · have hy := (at_mem ht hp m).1 hm
    have hpy := ht.path _ hy
    have hup : upL (placeN p m).path = place p (upL m.path) := up_place hne hpy
    have hw := place_within hp0 hpy
    have hnp : (placeN p m).path ≠ p := fun e => hne (place_inj (p := p) (by rw [place_nil]; exact e))
    obtain ⟨hu, _, _⟩ := within_up hw hp0 hnp
    rcases ht.dir _ hy with e | ⟨d, hd, e1, e2⟩
    · exact absurd e hu
    · refine ⟨{ d with path := upL m.path }, (at_mem ht hp _).2 ?_, rfl, e2⟩
      have : placeN p { d with path := upL m.path } = d := by
        unfold placeN
        cases d
        simp only at e1 ⊢
        rw [e1, hup]
      rw [this]
      exact hd

/- a value put in a place -/
theorem mem_out (t : List Nd) (p : List UInt8) (v : List Nd) (n : Nd) : n ∈ outL t p v ↔ (n ∈ t ∧ withinL n.path p = false) ∨ ∃ m ∈ v, placeN p m = n := by
  unfold outL
  rw [List.mem_append, List.mem_append, List.mem_filter, List.mem_filter, List.mem_map]
  simp only [Bool.and_eq_true, Bool.not_eq_true', decide_eq_true_eq, decide_eq_false_iff_not]
  constructor
  · rintro (⟨a, b, _⟩ | h | ⟨a, b, _⟩)
    · exact .inl ⟨a, b⟩
    · exact .inr h
    · exact .inl ⟨a, b⟩
  · rintro (⟨a, b⟩ | h)
    · by_cases c : ordL n.path p < 0
      · exact .inl ⟨a, b, c⟩
      · exact .inr (.inr ⟨a, b, c⟩)
    · exact .inr (.inl h)
theorem out_sorted {t : List Nd} (ht : Tree t) {p : List UInt8} (hp : pathL p = true) {v : List Nd} (hv : Sorted v) (hq : ∀ m ∈ v, pathL (place p m.path) = true) : Sorted (outL t p v) := by
  have hp0 := path_ne hp
  have hw : ∀ m ∈ v, withinL (placeN p m).path p = true := fun m hm => place_within hp0 (hq m hm)
  have hvs : Sorted (v.map (placeN p)) := by
    unfold Sorted
    rw [List.pairwise_map]
    refine List.Pairwise.imp (fun {a b} h => ?_) hv
    unfold lt at h ⊢
    have e := ord_place p a.path b.path
    show ordL (place p a.path) (place p b.path) < 0
    rw [e]
    exact h
  unfold outL Sorted
  rw [List.pairwise_append, List.pairwise_append]
  refine ⟨sorted_filter ht.sorted _, ⟨hvs, sorted_filter ht.sorted _, fun a ha b hb => ?_⟩, fun a ha b hb => ?_⟩
  · obtain ⟨m, hm, rfl⟩ := List.mem_map.1 ha
    rw [List.mem_filter] at hb
    simp only [Bool.and_eq_true, Bool.not_eq_true', decide_eq_false_iff_not] at hb
    exact ord_behind hp (ht.path b hb.1) hb.2.1 (hw m hm) hb.2.2
  · rw [List.mem_filter] at ha
    simp only [Bool.and_eq_true, Bool.not_eq_true', decide_eq_true_eq] at ha
    rcases List.mem_append.1 hb with hb | hb
    · obtain ⟨m, hm, rfl⟩ := List.mem_map.1 hb
      exact ord_ahead hp0 (hw m hm) ha.2.2
    · rw [List.mem_filter] at hb
      simp only [Bool.and_eq_true, Bool.not_eq_true', decide_eq_false_iff_not] at hb
      have h1 : ordL p b.path ≤ 0 := by
        have := ordL_swap p b.path
        omega
      exact ordL_lt ha.2.2 h1
/-- What makes a Put go through. -/
structure PutOk (t : List Nd) (p : List UInt8) (v : List Nd) : Prop where
  tree : Tree t
  val : Val v
  path : pathL p = true
  up : v ≠ [] → Dir t (upL p)
  all : ∀ m ∈ v, pathL (place p m.path) = true
  len : (outL t p v).length ≤ 1000
theorem put_cases (t : List Nd) (p : List UInt8) (v : List Nd) : (PutOk t p v ∧ putL t p v = (outL t p v, 0)) ∨ ∃ e, putL t p v = ([], e + 1) := by
  unfold putL
  by_cases h1 : treeB t = false ∨ rightV v = false
  · rw [if_pos h1]; exact .inr ⟨59, rfl⟩
  · rw [if_neg h1]
    have ht : Tree t := (tree_iff t).1 (by cases h : treeB t with | true => rfl | false => exact absurd (.inl h) h1)
    have hv : Val v := (val_iff v).1 (by cases h : rightV v with | true => rfl | false => exact absurd (.inr h) h1)
    by_cases h2 : pathL p = false
    · rw [if_pos h2]; exact .inr ⟨10, rfl⟩
    · rw [if_neg h2]
      have hp : pathL p = true := by simpa using h2
      by_cases h3 : v ≠ [] ∧ dirB t (parentL p) = false
      · rw [if_pos h3]; exact .inr ⟨61, rfl⟩
      · rw [if_neg h3]
        by_cases h4 : (v.all fun n => pathL (place p n.path)) = false
        · rw [if_pos h4]; exact .inr ⟨10, rfl⟩
        · rw [if_neg h4]
          by_cases h5 : 1000 < (outL t p v).length
          · rw [if_pos h5]; exact .inr ⟨31, rfl⟩
          · rw [if_neg h5]
            refine .inl ⟨⟨ht, hv, hp, fun hne => ?_, ?_, by omega⟩, rfl⟩
            · have e : dirB t (parentL p) = true := by
                cases h : dirB t (parentL p) with
                | true => rfl
                | false => exact absurd ⟨hne, h⟩ h3
              rw [show parentL p = upL p by unfold parentL; rw [if_pos hp]] at e
              exact (dir_iff ht.sorted _).1 e
            · have e : (v.all fun n => pathL (place p n.path)) = true := by simpa using h4
              exact fun m hm => List.all_eq_true.1 e m hm
theorem put_of {t : List Nd} {p : List UInt8} {v : List Nd} (h : PutOk t p v) : putL t p v = (outL t p v, 0) := by
  unfold putL
  rw [if_neg (by rw [(tree_iff t).2 h.tree, (val_iff v).2 h.val]; simp), if_neg (by rw [h.path]; simp), if_neg ?_, if_neg ?_, if_neg (by have := h.len; omega)]
  · rw [List.all_eq_true.2 h.all]; simp
  · rintro ⟨hne, hd⟩
    rw [show parentL p = upL p by unfold parentL; rw [if_pos h.path], (dir_iff h.tree.sorted _).2 (h.up hne)] at hd
    cases hd
theorem up_not_within {p : List UInt8} (hp : pathL p = true) (hu : upL p ≠ []) : withinL (upL p) p = false := by
  rw [Bool.eq_false_iff]
  intro h
  have h1 := ord_below (path_ne hp) h
  have h2 := up_lt hp
  have := ordL_swap (upL p) p
  omega
theorem out_tree {t : List Nd} {p : List UInt8} {v : List Nd} (h : PutOk t p v) : Tree (outL t p v) := by
  have hp0 := path_ne h.path
  have mo := mem_out t p v
  refine ⟨h.len, out_sorted h.tree h.path h.val.sorted h.all, fun n hn => ?_, fun n hn => ?_, fun n hn => ?_⟩
  · rcases (mo n).1 hn with ⟨a, _⟩ | ⟨m, hm, rfl⟩
    · exact h.tree.path n a
    · exact h.all m hm
  · rcases (mo n).1 hn with ⟨a, _⟩ | ⟨m, hm, rfl⟩
    · exact h.tree.right n a
    · exact h.val.right m hm
  · rcases (mo n).1 hn with ⟨a, b⟩ | ⟨m, hm, rfl⟩
    · rcases h.tree.dir n a with e | ⟨d, hd, e1, e2⟩
      · exact .inl e
      · by_cases hu : upL n.path = []
        · exact .inl hu
        · refine .inr ⟨d, (mo d).2 (.inl ⟨hd, ?_⟩), e1, e2⟩
          rw [Bool.eq_false_iff]
          intro hw
          rw [e1] at hw
          rw [within_of_up (h.tree.path n a) hp0 hu hw] at b
          cases b
    · by_cases hm0 : m.path = []
      · have hpm : (placeN p m).path = p := by unfold placeN; rw [hm0, place_nil]
        rw [hpm]
        rcases h.up (fun e => by rw [e] at hm; simp at hm) with e | ⟨d, hd, e1, e2⟩
        · exact .inl e
        · by_cases hu : upL p = []
          · exact .inl hu
          · refine .inr ⟨d, (mo d).2 (.inl ⟨hd, ?_⟩), e1, e2⟩
            rw [e1]
            exact up_not_within h.path hu
      · obtain ⟨d, hd, e1, e2⟩ := h.val.dir m hm hm0
        refine .inr ⟨placeN p d, (mo _).2 (.inr ⟨d, hd, rfl⟩), ?_, e2⟩
        show place p d.path = upL (place p m.path)
        rw [up_place hm0 (h.all m hm), e1]
theorem at_put {t : List Nd} {p : List UInt8} {v : List Nd} (h : PutOk t p v) : atL (outL t p v) p = v := by
  have ht := out_tree h
  have hp0 := path_ne h.path
  refine sorted_ext (at_sorted ht h.path) h.val.sorted fun n => ?_
  rw [at_mem ht h.path, mem_out]
  constructor
  · rintro (⟨a, b⟩ | ⟨m, hm, e⟩)
    · rw [place_within hp0 (h.tree.path _ a)] at b
      cases b
    · rw [← placeN_inj e]; exact hm
  · exact fun hn => .inr ⟨n, hn, rfl⟩
theorem at_ok {t : List Nd} (ht : Tree t) {p : List UInt8} (hp : pathL p = true) : atL t p ≠ [] → Dir t (upL p) := fun hne => by
  obtain ⟨m, hm, e⟩ := (at_val ht hp).head hne
  have h1 := ht.dir _ ((at_mem ht hp m).1 hm)
  have h2 : (placeN p m).path = p := by unfold placeN; rw [e, place_nil]
  rw [h2] at h1
  exact h1
/-- What is there, put again, or put back, is all as it was. -/
theorem put_back {t x : List Nd} (ht : Tree t) (hx : Tree x) {p : List UInt8} (hp : pathL p = true) (hsame : ∀ n, withinL n.path p = false → (n ∈ x ↔ n ∈ t)) : putL x p (atL t p) = (t, 0) := by
  have hp0 := path_ne hp
  have hv := at_val ht hp
  have hall : ∀ m ∈ atL t p, pathL (place p m.path) = true := fun m hm => ht.path _ ((at_mem ht hp m).1 hm)
  have hout : outL x p (atL t p) = t := by
    refine sorted_ext (out_sorted hx hp hv.sorted hall) ht.sorted fun n => ?_
    rw [mem_out]
    constructor
    · rintro (⟨a, b⟩ | ⟨m, hm, rfl⟩)
      · exact (hsame n b).1 a
      · exact (at_mem ht hp m).1 hm
    · intro hn
      cases hw : withinL n.path p with
      | false => exact .inl ⟨(hsame n hw).2 hn, rfl⟩
      | true =>
        obtain ⟨m, rfl⟩ := within_place hp0 hw
        exact .inr ⟨m, (at_mem ht hp m).2 hn, rfl⟩
  have hok : PutOk x p (atL t p) := ⟨hx, hv, hp, fun hne => by
    rcases at_ok ht hp hne with e | ⟨d, hd, e1, e2⟩
    · exact .inl e
    · by_cases hu : upL p = []
      · exact .inl hu
      · exact .inr ⟨d, (hsame d (by rw [e1]; exact up_not_within hp hu)).2 hd, e1, e2⟩, hall, by rw [hout]; exact ht.len⟩
  rw [put_of hok, hout]
theorem put_at {t : List Nd} (ht : Tree t) {p : List UInt8} (hp : pathL p = true) : putL t p (atL t p) = (t, 0) := put_back ht ht hp fun _ _ => Iff.rfl
theorem put_restore {t : List Nd} {p : List UInt8} {v : List Nd} (h : PutOk t p v) : putL (outL t p v) p (atL t p) = (t, 0) :=
  put_back h.tree (out_tree h) h.path fun n hn => by
    rw [mem_out]
    constructor
    · rintro (⟨a, _⟩ | ⟨m, hm, rfl⟩)
      · exact a
      · rw [place_within (path_ne h.path) (h.all m hm)] at hn
        cases hn
    · exact fun a => .inl ⟨a, hn⟩
end Go.Proofs.YtmpmmebmhffaeaaGreatDoor.TP
end
section
/- Layer 6: how lists of nodes lie in memory. -/
namespace Go.Proofs.YtmpmmebmhffaeaaGreatDoor
open Go.RowKit Go.Lib
namespace TM
open OM TP

def txt (l : List UInt8) : Value := .string ⟨l.toArray⟩
def ndCells (n : Nd) : List Value := [txt n.path, .int .i64 n.kind, txt n.data, .int .i64 n.mode]
def ndVal (n : Nd) : Value := .agg #[txt n.path, .int .i64 n.kind, txt n.data, .int .i64 n.mode]
def nodesC (ts : List Nd) : List Value := ts.flatMap ndCells
/-- One node lies there. -/
structure NodeAt (W : World) (g o : Nat) (n : Nd) : Prop where
  p : W.cell? ⟨g, o, none⟩ = some (txt n.path)
  k : W.cell? ⟨g, o + 1, none⟩ = some (.int .i64 n.kind)
  d : W.cell? ⟨g, o + 2, none⟩ = some (txt n.data)
  m : W.cell? ⟨g, o + 3, none⟩ = some (.int .i64 n.mode)
theorem NodeAt.below {W W' : World} {g o : Nat} {n : Nd} (h : NodeAt W g o n) (hg : g < W.heap.size) (hb : Below W.heap.size W W') : NodeAt W' g o n :=
  ⟨(hb.cell (p := ⟨g, o, none⟩) hg).trans h.p, (hb.cell (p := ⟨g, o + 1, none⟩) hg).trans h.k, (hb.cell (p := ⟨g, o + 2, none⟩) hg).trans h.d, (hb.cell (p := ⟨g, o + 3, none⟩) hg).trans h.m⟩
/-- A slice of nodes lies there. -/
def LayN (W : World) (ao : Option Addr) (ts : List Nd) : Prop :=
  0 < ts.length → ∃ g o, ao = some ⟨g, o, none⟩ ∧ g < W.heap.size ∧ ∀ (k : Nat) (n : Nd), ts[k]? = some n → NodeAt W g (o + k * 4) n
theorem LayN.below {W W' : World} {ao : Option Addr} {ts : List Nd} (h : LayN W ao ts) (hb : Below W.heap.size W W') : LayN W' ao ts := fun h0 => by
  obtain ⟨g, o, e, hlt, hc⟩ := h h0
  exact ⟨g, o, e, Nat.lt_of_lt_of_le hlt hb.size, fun k n hk => (hc k n hk).below hlt hb⟩
theorem LayN.nil (W : World) (ao : Option Addr) : LayN W ao [] := fun h => absurd h (by simp)
theorem nodes_len (ts : List Nd) : (nodesC ts).length = ts.length * 4 := by
  induction ts with
  | nil => rfl
  | cons n ts ih =>
    show (ndCells n ++ nodesC ts).length = _
    rw [List.length_append, ih, List.length_cons]
    show 4 + _ = _
    omega
theorem nodes_at : ∀ (ts : List Nd) (k : Nat) (n : Nd), ts[k]? = some n → (nodesC ts)[k * 4]? = some (txt n.path) ∧ (nodesC ts)[k * 4 + 1]? = some (.int .i64 n.kind) ∧ (nodesC ts)[k * 4 + 2]? = some (txt n.data) ∧ (nodesC ts)[k * 4 + 3]? = some (.int .i64 n.mode)
  | [], k, n, h => by simp at h
  | x :: ts, 0, n, h => by
    simp at h
    subst h
    exact ⟨rfl, rfl, rfl, rfl⟩
  | x :: ts, k + 1, n, h => by
    rw [List.getElem?_cons_succ] at h
    have ih := nodes_at ts k n h
    have e : ∀ j, (nodesC (x :: ts))[(k + 1) * 4 + j]? = (nodesC ts)[k * 4 + j]? := fun j => by
      show (ndCells x ++ nodesC ts)[_]? = _
      rw [List.getElem?_append_right (by show 4 ≤ _; omega)]
      congr 1
      show _ - 4 = _
      omega
    exact ⟨(e 0).trans ih.1, (e 1).trans ih.2.1, (e 2).trans ih.2.2.1, (e 3).trans ih.2.2.2⟩
theorem lay_own {w : World} {B : Nat} {v : Value} {ts : List Nd} (h : w.ownsRow B 40 4 v ts.length (nodesC ts)) : ∃ ao c, v = .slice ao ts.length c ∧ LayN w ao ts := by
  obtain ⟨ao, c, rfl, hx⟩ := owns_view h
  refine ⟨ao, c, rfl, fun h0 => ?_⟩
  obtain ⟨g, rfl, hg, _, hc⟩ := hx h0
  refine ⟨g, 0, rfl, hg, fun k n hk => ?_⟩
  have hkl := (List.getElem?_eq_some_iff.1 hk).1
  obtain ⟨a, b, c, d⟩ := nodes_at ts k n hk
  rw [Nat.zero_add]
  exact ⟨(hc _ (by omega)).trans a, (hc _ (by omega)).trans b, (hc _ (by omega)).trans c, (hc _ (by omega)).trans d⟩
theorem nodes_snoc (ts : List Nd) (n : Nd) : nodesC (ts ++ [n]) = nodesC ts ++ ndCells n := by
  unfold nodesC
  rw [List.flatMap_append, List.flatMap_singleton]
theorem txt_data (s : ByteArray) : txt s.data.toList = .string s := by
  unfold txt
  congr 1
theorem txt_inj {a b : List UInt8} (h : txt a = txt b) : a = b := by
  unfold txt at h
  injection h with h
  injection h with h
  simpa using h
end TM
end Go.Proofs.YtmpmmebmhffaeaaGreatDoor
end
section
/- Layer 6 over lists: where two trees differ; the names in a directory; a value moved (no program is read here). -/
namespace Go.Proofs.YtmpmmebmhffaeaaGreatDoor.TP
open Go NP

/- where two trees differ -/
def diffM : List Nd → List Nd → List (List UInt8)
  | [], b => b.map (·.path)
  | x :: a, [] => (x :: a).map (·.path)
  | x :: a, y :: b =>
    if ordL x.path y.path < 0 then x.path :: diffM a (y :: b)
    else if ordL y.path x.path < 0 then y.path :: diffM (x :: a) b
    else if x = y then diffM a b else x.path :: diffM a b
  termination_by a b => a.length + b.length
def differL (a b : List Nd) : List (List UInt8) := if treeB a = true ∧ treeB b = true then diffM a b else []
theorem diffM_nil : ∀ {a b : List Nd}, diffM a b = [] → a = b
  | [], b, h => by
    rw [diffM] at h
    exact (List.map_eq_nil_iff.1 h).symm
  | x :: a, [], h => by
    rw [diffM] at h
    exact List.map_eq_nil_iff.1 h
  | x :: a, y :: b, h => by
    rw [diffM] at h
    split at h
    · simp at h
    · split at h
      · simp at h
      · split at h
        · rename_i e
          rw [e, diffM_nil h]
        · simp at h
  termination_by a b => a.length + b.length
theorem diffM_self : ∀ a : List Nd, diffM a a = []
  | [] => by rw [diffM]; rfl
  | x :: a => by
    rw [diffM, if_neg (ord_irr _), if_neg (ord_irr _), if_pos rfl]
    exact diffM_self a
theorem diffM_mem : ∀ {a b : List Nd}, Sorted a → Sorted b → ∀ q ∈ diffM a b, (∃ n ∈ a, n.path = q ∧ n ∉ b) ∨ (∃ n ∈ b, n.path = q ∧ n ∉ a)
  | [], b, _, _, q, h => by
    rw [diffM, List.mem_map] at h
    obtain ⟨n, hn, e⟩ := h
    exact .inr ⟨n, hn, e, by simp⟩
  | x :: a, [], _, _, q, h => by
    rw [diffM, List.mem_map] at h
    obtain ⟨n, hn, e⟩ := h
    exact .inl ⟨n, hn, e, by simp⟩
  | x :: a, y :: b, ha, hb, q, h => by
    have ax : ∀ m ∈ a, lt x m := fun m hm => List.rel_of_pairwise_cons ha hm
    have bx : ∀ m ∈ b, lt y m := fun m hm => List.rel_of_pairwise_cons hb hm
    rw [diffM] at h
    by_cases h1 : ordL x.path y.path < 0
    · rw [if_pos h1] at h
      have hx : x ∉ y :: b := fun hm => by
        rcases List.mem_cons.1 hm with e | e
        · rw [e] at h1; exact ord_irr _ h1
        · exact ord_neg h1 (bx x e)
      rcases List.mem_cons.1 h with e | h
      · exact .inl ⟨x, List.mem_cons_self .., e.symm, hx⟩
      · rcases diffM_mem (List.Pairwise.of_cons ha) hb q h with ⟨n, hn, e, hno⟩ | ⟨n, hn, e, hno⟩
        · exact .inl ⟨n, List.mem_cons_of_mem _ hn, e, hno⟩
        · refine .inr ⟨n, hn, e, fun hm => ?_⟩
          rcases List.mem_cons.1 hm with e2 | e2
          · rw [e2] at hn; exact hx hn
          · exact hno e2
    · rw [if_neg h1] at h
      by_cases h2 : ordL y.path x.path < 0
      · rw [if_pos h2] at h
        have hy : y ∉ x :: a := fun hm => by
          rcases List.mem_cons.1 hm with e | e
          · rw [e] at h2; exact ord_irr _ h2
          · exact ord_neg h2 (ax y e)
        rcases List.mem_cons.1 h with e | h
        · exact .inr ⟨y, List.mem_cons_self .., e.symm, hy⟩
        · rcases diffM_mem ha (List.Pairwise.of_cons hb) q h with ⟨n, hn, e, hno⟩ | ⟨n, hn, e, hno⟩
          · refine .inl ⟨n, hn, e, fun hm => ?_⟩
            rcases List.mem_cons.1 hm with e2 | e2
            · rw [e2] at hn; exact hy hn
            · exact hno e2
          · exact .inr ⟨n, List.mem_cons_of_mem _ hn, e, hno⟩
      · rw [if_neg h2] at h
        have hp : x.path = y.path := by
          rcases ord_tri x.path y.path with e | e | e
          · exact absurd e h1
          · exact e
          · exact absurd e h2
        have hxb : x ∉ b := fun hm => by
          have := bx x hm
          unfold lt at this
          rw [← hp] at this
          exact ord_irr _ this
        have hya : y ∉ a := fun hm => by
          have := ax y hm
          unfold lt at this
          rw [hp] at this
          exact ord_irr _ this
        have step : ∀ q ∈ diffM a b, (∃ n ∈ x :: a, n.path = q ∧ n ∉ y :: b) ∨ (∃ n ∈ y :: b, n.path = q ∧ n ∉ x :: a) := fun q h => by
          rcases diffM_mem (List.Pairwise.of_cons ha) (List.Pairwise.of_cons hb) q h with ⟨n, hn, e, hno⟩ | ⟨n, hn, e, hno⟩
          · refine .inl ⟨n, List.mem_cons_of_mem _ hn, e, fun hm => ?_⟩
            rcases List.mem_cons.1 hm with e2 | e2
            · rw [e2] at hn; exact hya hn
            · exact hno e2
          · refine .inr ⟨n, List.mem_cons_of_mem _ hn, e, fun hm => ?_⟩
            rcases List.mem_cons.1 hm with e2 | e2
            · rw [e2] at hn; exact hxb hn
            · exact hno e2
        by_cases h3 : x = y
        · rw [if_pos h3] at h
          exact step q h
        · rw [if_neg h3] at h
          rcases List.mem_cons.1 h with e | h
          · refine .inl ⟨x, List.mem_cons_self .., e.symm, fun hm => ?_⟩
            rcases List.mem_cons.1 hm with e2 | e2
            · exact h3 e2
            · exact hxb e2
          · exact step q h
  termination_by a b => a.length + b.length
theorem diff_put {t : List Nd} {p : List UInt8} {v : List Nd} (h : PutOk t p v) : ∀ q ∈ diffM t (outL t p v), withinL q p = true := fun q hq => by
  rcases diffM_mem h.tree.sorted (out_tree h).sorted q hq with ⟨n, hn, rfl, hno⟩ | ⟨n, hn, rfl, hno⟩
  · cases hw : withinL n.path p with
    | true => rfl
    | false => exact absurd ((mem_out t p v n).2 (.inl ⟨hn, hw⟩)) hno
  · rcases (mem_out t p v n).1 hn with ⟨a, _⟩ | ⟨m, hm, rfl⟩
    · exact absurd a hno
    · exact place_within (path_ne h.path) (h.all m hm)

/- taken away -/
theorem filter_two (t : List Nd) (f g : Nd → Bool) : (t.filter fun n => f n && g n).length + (t.filter fun n => f n && !g n).length ≤ t.length := by
  induction t with
  | nil => simp
  | cons x r ih =>
    simp only [List.filter_cons]
    cases f x <;> cases g x <;> simp <;> omega
theorem out_nil_len (t : List Nd) (p : List UInt8) : (outL t p []).length ≤ t.length := by
  unfold outL
  rw [List.map_nil, List.nil_append, List.length_append]
  exact filter_two t _ _
theorem take_ok {t : List Nd} (ht : Tree t) {p : List UInt8} (hp : pathL p = true) : PutOk t p [] :=
  ⟨ht, Val.nil, hp, fun h => absurd rfl h, by simp, Nat.le_trans (out_nil_len t p) ht.len⟩
theorem within_comp {n a b : List UInt8} (ha : a ≠ []) (hb : b ≠ []) (h1 : withinL n a = true) (h2 : withinL n b = true) : withinL a b = true ∨ withinL b a = true := by
  have hn := within_path h1
  obtain ⟨pa, ca⟩ := (within_parts hn ha).1 h1
  obtain ⟨pb, cb⟩ := (within_parts hn hb).1 h2
  rcases List.prefix_or_prefix_of_prefix ca cb with h | h
  · exact .inr ((within_parts pb ha).2 ⟨pa, h⟩)
  · exact .inl ((within_parts pa hb).2 ⟨pb, h⟩)
theorem at_none {t : List Nd} {p : List UInt8} (h0 : p ≠ []) (hp : pathL p = false) : atL t p = [] := by
  unfold atL
  by_cases ht : treeB t = true
  · rw [if_pos ht, if_neg h0, List.map_eq_nil_iff, List.filter_eq_nil_iff]
    intro n hn
    rw [within_noq (((tree_iff t).1 ht).path n hn) h0 hp]
    simp
  · rw [if_neg ht]
/-- A value put elsewhere, and taken away where it was. -/
theorem moved {t : List Nd} {src dst : List UInt8} {v : List Nd} (h : PutOk t dst v) (hs : pathL src = true) (h1 : withinL dst src = false) (h2 : withinL src dst = false) :
    PutOk (outL t dst v) src [] ∧ PutOk (outL t src []) dst v ∧ outL (outL t dst v) src [] = outL (outL t src []) dst v ∧ atL (outL (outL t dst v) src []) src = [] := by
  have hs0 := path_ne hs
  have hd0 := path_ne h.path
  have hA := out_tree h
  have hB := out_tree (take_ok h.tree hs)
  have ok1 := take_ok hA hs
  have hno : ∀ m ∈ v, withinL (placeN dst m).path src = false := fun m hm => by
    rw [Bool.eq_false_iff]
    intro hw
    rcases within_comp hd0 hs0 (place_within hd0 (h.all m hm)) hw with e | e
    · rw [e] at h1; cases h1
    · rw [e] at h2; cases h2
  have heq : outL (outL t dst v) src [] = outL (outL t src []) dst v := by
    refine sorted_ext (out_sorted hA hs List.Pairwise.nil (by simp)) (out_sorted hB h.path h.val.sorted h.all) fun n => ?_
    rw [mem_out, mem_out, mem_out, mem_out]
    constructor
    · rintro (⟨⟨a, b⟩ | ⟨m, hm, rfl⟩, c⟩ | ⟨m, hm, _⟩)
      · exact .inl ⟨.inl ⟨a, c⟩, b⟩
      · exact .inr ⟨m, hm, rfl⟩
      · simp at hm
    · rintro (⟨⟨a, b⟩ | ⟨m, hm, _⟩, c⟩ | ⟨m, hm, rfl⟩)
      · exact .inl ⟨.inl ⟨a, c⟩, b⟩
      · simp at hm
      · exact .inl ⟨.inr ⟨m, hm, rfl⟩, hno m hm⟩
  refine ⟨ok1, ⟨hB, h.val, h.path, fun hne => ?_, h.all, ?_⟩, heq, ?_⟩
  · rcases h.up hne with e | ⟨d, hd, e1, e2⟩
    · exact .inl e
    · by_cases hu : upL dst = []
      · exact .inl hu
      · refine .inr ⟨d, (mem_out _ _ _ _).2 (.inl ⟨hd, ?_⟩), e1, e2⟩
        rw [Bool.eq_false_iff]
        intro hw
        rw [e1] at hw
        rw [within_of_up h.path hs0 hu hw] at h1
        cases h1
  · rw [← heq]; exact Nat.le_trans (out_nil_len _ _) h.len
  · have hC := out_tree ok1
    rw [List.eq_nil_iff_forall_not_mem]
    intro n hn
    rcases (mem_out _ _ _ _).1 ((at_mem hC hs n).1 hn) with ⟨a, b⟩ | ⟨m, hm, _⟩
    · rw [place_within hs0 (hA.path _ a)] at b
      cases b
    · simp at hm

/- the names in a directory -/
def namesL (t : List Nd) (p : List UInt8) : List (List UInt8) := if treeB t = true ∧ dirB t p = true then (t.filter fun n => decide (parentL n.path = p)).map fun n => baseL n.path else []
theorem names_tree {t : List Nd} (ht : Tree t) {p : List UInt8} (hd : Dir t p) : namesL t p = (t.filter fun n => decide (upL n.path = p)).map fun n => lastL n.path := by
  unfold namesL
  rw [if_pos ⟨(tree_iff t).2 ht, (dir_iff ht.sorted p).2 hd⟩]
  have e1 : (t.filter fun n => decide (parentL n.path = p)) = t.filter fun n => decide (upL n.path = p) := List.filter_congr fun n hn => by
    rw [show parentL n.path = upL n.path by unfold parentL; rw [if_pos (ht.path n hn)]]
  rw [e1]
  refine List.map_congr_left fun n hn => ?_
  rw [List.mem_filter] at hn
  unfold baseL
  rw [if_pos (ht.path n hn.1)]
theorem names_no {t : List Nd} (ht : Tree t) {p : List UInt8} (hd : ¬ Dir t p) : namesL t p = [] := by
  unfold namesL
  rw [if_neg (fun h => hd ((dir_iff ht.sorted p).1 h.2))]
theorem none_below {t : List Nd} (ht : Tree t) {p : List UInt8} (hd : ¬ Dir t p) : (t.filter fun n => decide (upL n.path = p)) = [] := by
  rw [List.filter_eq_nil_iff]
  intro n hn h
  have h := of_decide_eq_true h
  exact hd (h ▸ ht.dir n hn)
theorem names_len {t : List Nd} (ht : Tree t) (p : List UInt8) : (namesL t p).length = (t.filter fun n => decide (upL n.path = p)).length := by
  by_cases hd : Dir t p
  · rw [names_tree ht hd, List.length_map]
  · rw [names_no ht hd, none_below ht hd]; rfl
/-- Each name, with its directory ahead of it, is there. -/
theorem names_there {t : List Nd} (ht : Tree t) {p x : List UInt8} (hx : x ∈ namesL t p) : ∃ n ∈ t, n.path = if p = [] then x else p ++ 47 :: x := by
  by_cases hd : Dir t p
  · rw [names_tree ht hd, List.mem_map] at hx
    obtain ⟨n, hn, rfl⟩ := hx
    rw [List.mem_filter] at hn
    have hu := of_decide_eq_true hn.2
    have h := up_last n.path (ht.path n hn.1)
    rw [hu] at h
    exact ⟨n, hn.1, h⟩
  · rw [names_no ht hd] at hx; simp at hx
theorem names_order {t : List Nd} (ht : Tree t) (p : List UInt8) : (namesL t p).Pairwise fun a b => cmpL a b < 0 := by
  by_cases hd : Dir t p
  · rw [names_tree ht hd, List.pairwise_map]
    refine List.Pairwise.imp_of_mem (fun {a b} ha hb hlt => ?_) (sorted_filter ht.sorted _)
    rw [List.mem_filter] at ha hb
    have ha2 := of_decide_eq_true ha.2
    have hb2 := of_decide_eq_true hb.2
    have la := up_last a.path (ht.path a ha.1)
    have lb := up_last b.path (ht.path b hb.1)
    rw [ha2] at la
    rw [hb2] at lb
    have key : ordL a.path b.path = ordL (lastL a.path) (lastL b.path) := by
      by_cases h0 : p = []
      · rw [if_pos h0] at la lb
        rw [← la, ← lb]
      · rw [if_neg h0] at la lb
        conv => lhs; rw [la, lb]
        rw [ordL_append]
        show ordL ([47] ++ _) ([47] ++ _) = _
        exact ordL_append [47] _ _
    unfold lt at hlt
    rw [key] at hlt
    by_cases he : lastL a.path = lastL b.path
    · rw [he] at hlt; exact absurd hlt (ord_irr _)
    · have := ord_parts (lastL a.path) (lastL b.path) [] [] (last_no _) (last_no _) he (.inl rfl) (.inl rfl)
      rw [List.append_nil, List.append_nil] at this
      rw [← this]
      exact hlt
  · rw [names_no ht hd]; exact List.Pairwise.nil
/- each node is told once -/
theorem sum_zero (l : List Nd) : (l.map fun _ => 0).sum = 0 := by
  induction l with
  | nil => rfl
  | cons x l ih => simp [ih]
theorem sum_filter (D : List Nd) (r : Nd → Nd → Bool) : ∀ N : List Nd, (D.map fun d => (N.filter (r d)).length).sum = (N.map fun n => (D.filter fun d => r d n).length).sum
  | [] => by simpa using sum_zero D
  | n :: N => by
    rw [List.map_cons, List.sum_cons, ← sum_filter D r N]
    induction D with
    | nil => rfl
    | cons d D ih =>
      simp only [List.map_cons, List.sum_cons, List.filter_cons] at ih ⊢
      cases r d n
      · simp only [Bool.false_eq_true, if_false]; omega
      · simp only [if_true, List.length_cons]; omega
theorem one_of_path {t : List Nd} (hs : Sorted t) {d : Nd} (hd : d ∈ t) : (t.filter fun n => decide (n.path = d.path)) = [d] := by
  refine sorted_ext (sorted_filter hs _) (List.pairwise_singleton _ _) fun n => ?_
  rw [List.mem_filter, List.mem_singleton, decide_eq_true_eq]
  constructor
  · rintro ⟨a, b⟩; exact sorted_one hs a hd b
  · rintro rfl; exact ⟨hd, rfl⟩
theorem names_count {t : List Nd} (ht : Tree t) : ((root :: t).map fun d => (namesL t d.path).length).sum = t.length := by
  have hrt : Sorted (root :: t) := List.Pairwise.cons (fun n hn => nil_lt (path_ne (ht.path n hn))) ht.sorted
  have e1 : ((root :: t).map fun d => (namesL t d.path).length) = (root :: t).map fun d => (t.filter fun n => decide (upL n.path = d.path)).length := List.map_congr_left fun d _ => names_len ht d.path
  rw [e1, sum_filter (root :: t) (fun d n => decide (upL n.path = d.path)) t]
  have e2 : (t.map fun n => ((root :: t).filter fun d => decide (upL n.path = d.path)).length) = t.map fun _ => 1 := List.map_congr_left fun n hn => by
    obtain ⟨d, hd, e⟩ : ∃ d ∈ root :: t, d.path = upL n.path := by
      rcases ht.dir n hn with e | ⟨d, hd, e, _⟩
      · exact ⟨root, List.mem_cons_self .., e.symm⟩
      · exact ⟨d, List.mem_cons_of_mem _ hd, e⟩
    have := one_of_path hrt hd
    rw [e] at this
    have h2 : ((root :: t).filter fun d => decide (upL n.path = d.path)) = (root :: t).filter fun d => decide (d.path = upL n.path) := List.filter_congr fun x _ => by
      by_cases h : upL n.path = x.path
      · rw [decide_eq_true h, decide_eq_true h.symm]
      · rw [decide_eq_false h, decide_eq_false (Ne.symm h)]
    rw [h2, this]
    rfl
  rw [e2]
  clear e1 e2 hrt ht
  induction t with
  | nil => rfl
  | cons x t ih => simp [ih]; omega
end Go.Proofs.YtmpmmebmhffaeaaGreatDoor.TP
end
section
/- Layer 6 over lists: the rounds of the document's Put (no program is read here). -/
namespace Go.Proofs.YtmpmmebmhffaeaaGreatDoor.TP
open Go NP

/-- Ahead of the place, and not within it. -/
def lowN (p : List UInt8) (n : Nd) : Bool := !withinL n.path p && decide (ordL n.path p < 0)
/-- Behind the place, and not within it. -/
def highN (p : List UInt8) (n : Nd) : Bool := !withinL n.path p && !decide (ordL n.path p < 0)
/-- What is written after i rounds; b says that the value has been written. -/
def outK (t : List Nd) (p : List UInt8) (v : List Nd) (i : Nat) (b : Bool) : List Nd :=
  ((t.take i).filter (lowN p)) ++ (if b = true then v.map (placeN p) ++ (t.take i).filter (highN p) else [])
theorem outK_zero (t : List Nd) (p : List UInt8) (v : List Nd) : outK t p v 0 false = [] := rfl
theorem outK_end {t : List Nd} {p : List UInt8} {v : List Nd} {i : Nat} (h : t.length ≤ i) : outK t p v i true = outL t p v := by
  unfold outK outL
  rw [List.take_of_length_le h, if_pos rfl]
  rfl
theorem take_snoc {t : List Nd} {i : Nat} {x : Nd} (hx : t[i]? = some x) (f : Nd → Bool) : (t.take (i + 1)).filter f = (t.take i).filter f ++ (if f x = true then [x] else []) := by
  rw [List.take_add_one, hx, Option.toList_some, List.filter_append]
  cases h : f x <;> simp [h]
theorem outK_in {t : List Nd} {p : List UInt8} {v : List Nd} {i : Nat} {x : Nd} {b : Bool} (hx : t[i]? = some x) (hw : withinL x.path p = true) : outK t p v (i + 1) b = outK t p v i b := by
  unfold outK
  have h1 : lowN p x = false := by unfold lowN; rw [hw]; rfl
  have h2 : highN p x = false := by unfold highN; rw [hw]; rfl
  rw [take_snoc hx, take_snoc hx, h1, h2]
  simp
theorem outK_low {t : List Nd} {p : List UInt8} {v : List Nd} {i : Nat} {x : Nd} (hx : t[i]? = some x) (hw : withinL x.path p = false) (ho : ordL x.path p < 0) : outK t p v (i + 1) false = outK t p v i false ++ [x] := by
  unfold outK
  have h1 : lowN p x = true := by unfold lowN; rw [hw]; simp [ho]
  rw [take_snoc hx, h1]
  simp
theorem outK_high {t : List Nd} {p : List UInt8} {v : List Nd} {i : Nat} {x : Nd} (hx : t[i]? = some x) (hw : withinL x.path p = false) (ho : ¬ ordL x.path p < 0) : outK t p v (i + 1) true = outK t p v i true ++ [x] := by
  unfold outK
  have h1 : lowN p x = false := by unfold lowN; rw [hw]; simp [ho]
  have h2 : highN p x = true := by unfold highN; rw [hw]; simp [ho]
  rw [take_snoc hx, take_snoc hx, h1, h2]
  simp
/-- The first i lie ahead of the place. -/
def Ahead (t : List Nd) (p : List UInt8) (i : Nat) : Prop := ∀ j x, j < i → t[j]? = some x → ordL x.path p < 0
/-- From i on, none lies ahead of it. -/
def Behind (t : List Nd) (p : List UInt8) (i : Nat) : Prop := ∀ j x, i ≤ j → t[j]? = some x → ¬ ordL x.path p < 0
theorem Ahead.zero (t : List Nd) (p : List UInt8) : Ahead t p 0 := fun j x h => absurd h (Nat.not_lt_zero _)
theorem Ahead.succ {t : List Nd} {p : List UInt8} {i : Nat} {x : Nd} (h : Ahead t p i) (hx : t[i]? = some x) (ho : ordL x.path p < 0) : Ahead t p (i + 1) := fun j y hj hy => by
  rcases Nat.lt_or_ge j i with e | e
  · exact h j y e hy
  · have : j = i := by omega
    subst this
    rw [hx] at hy
    cases hy
    exact ho
theorem Behind.succ {t : List Nd} {p : List UInt8} {i : Nat} (h : Behind t p i) : Behind t p (i + 1) := fun j x hj hx => h j x (by omega) hx
theorem Behind.last {t : List Nd} {p : List UInt8} {i : Nat} (h : t.length ≤ i) : Behind t p i := fun j x hj hx => by
  rw [List.getElem?_eq_none (by omega)] at hx
  cases hx
theorem Behind.of {t : List Nd} {p : List UInt8} {i : Nat} {x : Nd} (hs : Sorted t) (hx : t[i]? = some x) (ho : ¬ ordL x.path p < 0) : Behind t p i := fun j y hj hy hc => by
  rcases Nat.lt_or_ge i j with e | e
  · obtain ⟨hi', rfl⟩ := List.getElem?_eq_some_iff.1 hx
    obtain ⟨hj', rfl⟩ := List.getElem?_eq_some_iff.1 hy
    have h1 : lt t[i] t[j] := List.pairwise_iff_getElem.1 hs i j hi' hj' e
    exact ho (ord_lt h1 hc)
  · have : j = i := by omega
    subst this
    rw [hx] at hy
    cases hy
    exact ho hc
/-- The value is written. -/
theorem outK_flip {t : List Nd} {p : List UInt8} {v : List Nd} {i : Nat} (h : Ahead t p i) : outK t p v i true = outK t p v i false ++ v.map (placeN p) := by
  unfold outK
  have e : (t.take i).filter (highN p) = [] := by
    rw [List.filter_eq_nil_iff]
    intro x hx
    obtain ⟨j, hj⟩ := List.mem_iff_getElem?.1 hx
    rw [List.getElem?_take] at hj
    split at hj
    · rename_i hji
      have := h j x hji hj
      unfold highN
      simp [this]
    · cases hj
  rw [e, if_pos rfl, if_neg (by simp), List.append_nil, List.append_nil]
theorem outK_len (t : List Nd) (p : List UInt8) (v : List Nd) (i : Nat) (b : Bool) : (outK t p v i b).length ≤ 2 * t.length + v.length := by
  unfold outK
  have h1 := List.length_filter_le (lowN p) (t.take i)
  have h2 := List.length_filter_le (highN p) (t.take i)
  have h3 : (t.take i).length ≤ t.length := by rw [List.length_take]; omega
  cases b
  · rw [if_neg (by simp), List.append_nil]
    omega
  · rw [if_pos rfl, List.length_append, List.length_append, List.length_map]
    omega
/-- What stands first in a value has no path; what follows has one. -/
theorem val_at {v : List Nd} (h : rightV v = true) {k : Nat} {x : Nd} (hx : v[k]? = some x) : (k = 0 → x.path = []) ∧ (k ≠ 0 → x.path ≠ []) := by
  cases v with
  | nil => simp at hx
  | cons a r =>
    unfold rightV at h
    simp only [Bool.and_eq_true, Bool.or_eq_true, decide_eq_true_eq] at h
    obtain ⟨⟨⟨h1, _⟩, _⟩, h2⟩ := h
    cases k with
    | zero =>
      simp at hx
      subst hx
      exact ⟨fun _ => h1, fun h => absurd rfl h⟩
    | succ k =>
      rw [List.getElem?_cons_succ] at hx
      refine ⟨fun h => by omega, fun _ => ?_⟩
      rcases h2 with h2 | ⟨_, h2⟩
      · rw [h2] at hx; simp at hx
      · exact path_ne (((tree_iff r).1 h2).path x (List.mem_of_getElem? hx))
theorem val_len {v : List Nd} (h : rightV v = true) : v.length ≤ 1000 := by
  cases v with
  | nil => simp
  | cons a r =>
    unfold rightV at h
    simp only [Bool.and_eq_true, Bool.or_eq_true, decide_eq_true_eq] at h
    rw [List.length_cons]
    omega
/-- What is written of the value after k rounds. -/
def valK (p : List UInt8) (v : List Nd) (k : Nat) : List Nd := (v.take k).map (placeN p)
theorem valK_succ {p : List UInt8} {v : List Nd} {k : Nat} {x : Nd} (hx : v[k]? = some x) : valK p v (k + 1) = valK p v k ++ [placeN p x] := by
  unfold valK
  rw [List.take_add_one, hx, Option.toList_some, List.map_append, List.map_singleton]
theorem valK_end {p : List UInt8} {v : List Nd} {k : Nat} (h : v.length ≤ k) : valK p v k = v.map (placeN p) := by
  unfold valK
  rw [List.take_of_length_le h]
/-- The first k keep to paths. -/
def PathsK (p : List UInt8) (v : List Nd) (k : Nat) : Prop := ∀ j x, j < k → v[j]? = some x → pathL (place p x.path) = true
theorem PathsK.zero (p : List UInt8) (v : List Nd) : PathsK p v 0 := fun j x h => absurd h (Nat.not_lt_zero _)
theorem PathsK.succ {p : List UInt8} {v : List Nd} {k : Nat} {x : Nd} (h : PathsK p v k) (hx : v[k]? = some x) (ho : pathL (place p x.path) = true) : PathsK p v (k + 1) := fun j y hj hy => by
  rcases Nat.lt_or_ge j k with e | e
  · exact h j y e hy
  · have : j = k := by omega
    subst this
    rw [hx] at hy
    cases hy
    exact ho
theorem paths_all {p : List UInt8} {v : List Nd} {k : Nat} (h : PathsK p v k) (hk : v.length ≤ k) : (v.all fun n => pathL (place p n.path)) = true := by
  rw [List.all_eq_true]
  intro x hx
  obtain ⟨j, hj⟩ := List.mem_iff_getElem?.1 hx
  have := (List.getElem?_eq_some_iff.1 hj).1
  exact h j x (by omega) hj
theorem paths_no {p : List UInt8} {v : List Nd} {k : Nat} {x : Nd} (hx : v[k]? = some x) (ho : pathL (place p x.path) = false) : (v.all fun n => pathL (place p n.path)) = false := by
  rw [← Bool.not_eq_true, List.all_eq_true]
  intro h
  have := h x (List.mem_of_getElem? hx)
  rw [ho] at this
  cases this
end Go.Proofs.YtmpmmebmhffaeaaGreatDoor.TP
end
section
/- Layer 6 over lists: where a path stands in a tree in the order of paths, and what lies within it (no program is read here). -/
namespace Go.Proofs.YtmpmmebmhffaeaaGreatDoor.TP
open Go NP

theorem ord_swap_lt {a b : List UInt8} : ordL a b < 0 ↔ 0 < ordL b a := by
  have := ordL_swap a b
  omega
theorem sorted_at {t : List Nd} (hs : Sorted t) {i j : Nat} {x y : Nd} (hx : t[i]? = some x) (hy : t[j]? = some y) (h : i < j) : ordL x.path y.path < 0 := by
  obtain ⟨hi, rfl⟩ := List.getElem?_eq_some_iff.1 hx
  obtain ⟨hj, rfl⟩ := List.getElem?_eq_some_iff.1 hy
  exact List.pairwise_iff_getElem.1 hs i j hi hj h
/-- k is where the path stands, or would stand. -/
structure PlaceAt (t : List Nd) (p : List UInt8) (k : Nat) : Prop where
  le : k ≤ t.length
  ahead : Ahead t p k
  behind : Behind t p k
theorem Ahead.of {t : List Nd} {p : List UInt8} {i : Nat} {x : Nd} (hs : Sorted t) (hx : t[i]? = some x) (ho : ordL x.path p < 0) : Ahead t p (i + 1) := fun j y hj hy => by
  rcases Nat.lt_or_ge j i with e | e
  · exact ord_lt (sorted_at hs hy hx e) ho
  · have : j = i := by omega
    subst this
    rw [hx] at hy
    cases hy
    exact ho
theorem place_uniq {t : List Nd} {p : List UInt8} {i j : Nat} (h : PlaceAt t p i) (k : PlaceAt t p j) : i = j := by
  rcases Nat.lt_trichotomy i j with e | e | e
  · have hi : i < t.length := by have := k.le; omega
    exact absurd (k.ahead i _ e (List.getElem?_eq_getElem hi)) (h.behind i _ (Nat.le_refl _) (List.getElem?_eq_getElem hi))
  · exact e
  · have hi : j < t.length := by have := h.le; omega
    exact absurd (h.ahead j _ e (List.getElem?_eq_getElem hi)) (k.behind j _ (Nat.le_refl _) (List.getElem?_eq_getElem hi))
theorem place_yes {t : List Nd} {p : List UInt8} {k : Nat} {x : Nd} (hs : Sorted t) (hx : t[k]? = some x) (he : x.path = p) : findN t p = some x := by
  rw [← he]
  exact find_of hs (List.mem_of_getElem? hx)
theorem place_no {t : List Nd} {p : List UInt8} {k : Nat} (hs : Sorted t) (h : PlaceAt t p k) (hno : ∀ x, t[k]? = some x → x.path ≠ p) : findN t p = none := by
  unfold findN
  rw [List.find?_eq_none]
  intro n hn
  obtain ⟨j, hj, e⟩ := List.getElem_of_mem hn
  have hj' : t[j]? = some n := by rw [← e]; exact List.getElem?_eq_getElem _
  intro he
  have he := of_decide_eq_true he
  have hnl : ¬ ordL n.path p < 0 := by rw [he]; exact ord_irr p
  rcases Nat.lt_trichotomy j k with e | e | e
  · exact hnl (h.ahead j n e hj')
  · rw [e] at hj'; exact hno n hj' he
  · have hk : k < t.length := by omega
    have hx := List.getElem?_eq_getElem hk
    have h1 := sorted_at hs hx hj' e
    rw [he] at h1
    exact h.behind k _ (Nat.le_refl _) hx h1
/-- From i to j lies what is within the path. -/
structure Cut (t : List Nd) (p : List UInt8) (i j : Nat) : Prop where
  at_ : PlaceAt t p i
  ij : i ≤ j
  le : j ≤ t.length
  yes : ∀ m x, i ≤ m → m < j → t[m]? = some x → withinL x.path p = true
  no : ∀ m x, j ≤ m → t[m]? = some x → withinL x.path p = false
theorem within_nil {n : List UInt8} (hn : pathL n = true) : withinL n [] = true := by
  unfold withinL Lib.hasPrefix restOk
  rw [hn]
  simp
theorem within_q {n p : List UInt8} (hn : pathL n = true) (hp : p ≠ []) (h : withinL n p = true) : pathL p = true := by
  cases hq : pathL p with
  | true => rfl
  | false => rw [within_noq hn hp hq] at h; cases h
/-- Behind the place, what stands ahead of one that is within the path is within it too. -/
theorem within_mono {t : List Nd} {p : List UInt8} {i a b : Nat} {x y : Nd} (hs : Sorted t) (hp : ∀ n ∈ t, pathL n.path = true) (h : PlaceAt t p i) (ha : i ≤ a) (hab : a ≤ b) (hx : t[a]? = some x) (hy : t[b]? = some y) (hw : withinL y.path p = true) : withinL x.path p = true := by
  have hxp := hp x (List.mem_of_getElem? hx)
  have hyp := hp y (List.mem_of_getElem? hy)
  by_cases h0 : p = []
  · rw [h0]; exact within_nil hxp
  · have hpp := within_q hyp h0 hw
    have hno := h.behind a x ha hx
    rcases ord_tri x.path p with e | e | e
    · exact absurd e hno
    · rw [e]; exact within_self hpp
    · rcases Nat.lt_or_ge a b with hlt | hge
      · exact between hxp hw e (sorted_at hs hx hy hlt)
      · have : a = b := by omega
        subst this
        rw [hx] at hy
        cases hy
        exact hw
theorem low_not_within {n p : List UInt8} (hn : pathL n = true) (h : ordL n p < 0) : withinL n p = false := by
  rw [Bool.eq_false_iff]
  intro hw
  by_cases h0 : p = []
  · rw [h0] at h
    exact ord_neg h (nil_lt (path_ne hn))
  · have := ord_below h0 hw
    have := ordL_swap n p
    omega
theorem mem_take {t : List Nd} {i : Nat} {n : Nd} (h : n ∈ t.take i) : ∃ m, m < i ∧ t[m]? = some n := by
  obtain ⟨m, hm, e⟩ := List.getElem_of_mem h
  rw [List.length_take] at hm
  refine ⟨m, by omega, ?_⟩
  rw [← e, List.getElem_take]
  exact List.getElem?_eq_getElem _
theorem mem_drop {t : List Nd} {j : Nat} {n : Nd} (h : n ∈ t.drop j) : ∃ m, j ≤ m ∧ t[m]? = some n := by
  obtain ⟨m, hm, e⟩ := List.getElem_of_mem h
  rw [List.length_drop] at hm
  refine ⟨j + m, by omega, ?_⟩
  rw [← e, List.getElem_drop]
  exact List.getElem?_eq_getElem _
theorem mem_mid {t : List Nd} {i j : Nat} {n : Nd} (h : n ∈ (t.take j).drop i) : ∃ m, i ≤ m ∧ m < j ∧ t[m]? = some n := by
  obtain ⟨m, hm, e⟩ := List.getElem_of_mem h
  rw [List.length_drop, List.length_take] at hm
  refine ⟨i + m, by omega, by omega, ?_⟩
  rw [← e, List.getElem_drop, List.getElem_take]
  exact List.getElem?_eq_getElem _
theorem cut_three (t : List Nd) {i j : Nat} (h : i ≤ j) : t = t.take i ++ ((t.take j).drop i ++ t.drop j) := by
  have e : (t.take j).take i = t.take i := by rw [List.take_take, Nat.min_eq_left h]
  rw [← List.append_assoc, ← e, List.take_append_drop, List.take_append_drop]
theorem filter_all {t : List Nd} {f : Nd → Bool} (h : ∀ n ∈ t, f n = true) : t.filter f = t := List.filter_eq_self.2 h
theorem filter_none {t : List Nd} {f : Nd → Bool} (h : ∀ n ∈ t, f n = false) : t.filter f = [] := List.filter_eq_nil_iff.2 fun n hn => by rw [h n hn]; simp
section
variable {t : List Nd} {p : List UInt8} {i j : Nat}
theorem Cut.a (hp : ∀ n ∈ t, pathL n.path = true) (h : Cut t p i j) : ∀ n ∈ t.take i, ordL n.path p < 0 ∧ withinL n.path p = false := fun n hn => by
  obtain ⟨m, hm, e⟩ := mem_take hn
  have := h.at_.ahead m n hm e
  exact ⟨this, low_not_within (hp n (List.mem_of_getElem? e)) this⟩
theorem Cut.b (h : Cut t p i j) : ∀ n ∈ (t.take j).drop i, ¬ ordL n.path p < 0 ∧ withinL n.path p = true := fun n hn => by
  obtain ⟨m, h1, h2, e⟩ := mem_mid hn
  exact ⟨h.at_.behind m n h1 e, h.yes m n h1 h2 e⟩
theorem Cut.c (h : Cut t p i j) : ∀ n ∈ t.drop j, ¬ ordL n.path p < 0 ∧ withinL n.path p = false := fun n hn => by
  obtain ⟨m, h1, e⟩ := mem_drop hn
  exact ⟨h.at_.behind m n (by have := h.ij; omega) e, h.no m n h1 e⟩
theorem Cut.filter (hp : ∀ n ∈ t, pathL n.path = true) (h : Cut t p i j) : (t.filter fun n => withinL n.path p) = (t.take j).drop i := by
  conv => lhs; rw [cut_three t h.ij]
  rw [List.filter_append, List.filter_append, filter_none (fun n hn => (h.a hp n hn).2), filter_all (fun n hn => (h.b n hn).2), filter_none (fun n hn => (h.c n hn).2)]
  simp
theorem Cut.low (hp : ∀ n ∈ t, pathL n.path = true) (h : Cut t p i j) : t.filter (lowN p) = t.take i := by
  conv => lhs; rw [cut_three t h.ij]
  rw [List.filter_append, List.filter_append, filter_all, filter_none, filter_none]
  · simp
  · intro n hn; unfold lowN; rw [decide_eq_false (h.c n hn).1]; simp
  · intro n hn; unfold lowN; rw [decide_eq_false (h.b n hn).1]; simp
  · intro n hn; unfold lowN; rw [(h.a hp n hn).2, decide_eq_true (h.a hp n hn).1]; rfl
theorem Cut.high (hp : ∀ n ∈ t, pathL n.path = true) (h : Cut t p i j) : t.filter (highN p) = t.drop j := by
  conv => lhs; rw [cut_three t h.ij]
  rw [List.filter_append, List.filter_append, filter_none, filter_none, filter_all]
  · simp
  · intro n hn; unfold highN; rw [(h.c n hn).2, decide_eq_false (h.c n hn).1]; rfl
  · intro n hn; unfold highN; rw [(h.b n hn).2]; simp
  · intro n hn; unfold highN; rw [decide_eq_true (h.a hp n hn).1]; simp
theorem Cut.out (hp : ∀ n ∈ t, pathL n.path = true) (h : Cut t p i j) (v : List Nd) : outL t p v = t.take i ++ (v.map (placeN p) ++ t.drop j) := by
  rw [← h.low hp, ← h.high hp]
  rfl
theorem Cut.len (hp : ∀ n ∈ t, pathL n.path = true) (h : Cut t p i j) (v : List Nd) : (outL t p v).length = t.length - (j - i) + v.length := by
  have := h.ij
  have := h.le
  rw [h.out hp, List.length_append, List.length_append, List.length_map, List.length_take, List.length_drop]
  omega
theorem Cut.names (ht : Tree t) (h : Cut t p i j) : namesL t p = (((t.take j).drop i).filter fun n => decide (parentL n.path = p)).map fun n => baseL n.path := by
  have key : ∀ n ∈ t, withinL n.path p = false → decide (parentL n.path = p) = false := fun n hn hw => by
    rw [decide_eq_false_iff_not]
    intro e
    have hnp := ht.path n hn
    rw [show parentL n.path = upL n.path by unfold parentL; rw [if_pos hnp]] at e
    by_cases h0 : p = []
    · rw [h0, within_nil hnp] at hw; cases hw
    · rw [← e] at h0
      rw [← e, (up_path hnp h0).2] at hw; cases hw
  have e1 : (t.filter fun n => decide (parentL n.path = p)) = ((t.take j).drop i).filter fun n => decide (parentL n.path = p) := by
    conv => lhs; rw [cut_three t h.ij]
    rw [List.filter_append, List.filter_append, filter_none (fun n hn => key n (List.mem_of_mem_take hn) (h.a ht.path n hn).2), filter_none (t := t.drop j) (fun n hn => key n (List.mem_of_mem_drop hn) (h.c n hn).2)]
    simp
  rw [← e1]
  by_cases hd : Dir t p
  · unfold namesL
    rw [if_pos ⟨(tree_iff t).2 ht, (dir_iff ht.sorted p).2 hd⟩]
  · rw [names_no ht hd]
    have e2 : (t.filter fun n => decide (parentL n.path = p)) = t.filter fun n => decide (upL n.path = p) := List.filter_congr fun n hn => by
      rw [show parentL n.path = upL n.path by unfold parentL; rw [if_pos (ht.path n hn)]]
    rw [e2, none_below ht hd]
    rfl
theorem Cut.all (hp : ∀ n ∈ t, pathL n.path = true) (h : Cut t [] i j) : (t.take j).drop i = t := by
  rw [← h.filter hp]
  exact filter_all fun n hn => within_nil (hp n hn)
end
/-- A node's path as the program counts it from p. -/
def trimN (p : List UInt8) (n : Nd) : Nd := { n with path := Lib.trimPrefix (Lib.trimPrefix n.path p) [47] }
theorem trim_no {l : List UInt8} (h : l.head? ≠ some 47) : Lib.trimPrefix l [47] = l := by
  unfold Lib.trimPrefix Lib.hasPrefix
  cases l with
  | nil => rfl
  | cons x r =>
    rw [if_neg]
    intro e
    simp [List.isPrefixOf] at e
    exact h (by simp [e])
theorem path_head {n : List UInt8} (h : pathL n = true) : n.head? ≠ some 47 := by
  cases n with
  | nil => simp
  | cons x r =>
    intro e
    simp at e
    subst e
    have := path_pre (q := []) (r := r) h
    rw [path_nil] at this
    cases this
theorem trim_nil {n : Nd} (h : pathL n.path = true) : trimN [] n = n := by
  unfold trimN
  rw [show Lib.trimPrefix n.path [] = n.path by unfold Lib.trimPrefix; simp [Lib.hasPrefix], trim_no (path_head h)]
theorem trim_pre (p r : List UInt8) : Lib.trimPrefix (p ++ r) p = r := by
  unfold Lib.trimPrefix Lib.hasPrefix
  rw [if_pos (List.isPrefixOf_iff_prefix.2 ⟨r, rfl⟩), List.drop_left]
theorem trim_cut {n : Nd} {p : List UInt8} (hn : pathL n.path = true) (hp : p ≠ []) (h : withinL n.path p = true) : trimN p n = cutN p n := by
  obtain ⟨q, e⟩ := (within_iff hn hp).1 h
  unfold trimN cutN
  rw [e]
  by_cases hq : q = []
  · rw [hq, place_nil, if_pos rfl]
    congr 1
    have := trim_pre p []
    rw [List.append_nil] at this
    rw [this]
    rfl
  · rw [place_ne p hq, if_neg]
    · congr 1
      rw [trim_pre]
      have := trim_pre [47] q
      rw [show [47] ++ q = 47 :: q from rfl] at this
      rw [this]
      rw [show p ++ 47 :: q = (p ++ [47]) ++ q by simp, show p.length + 1 = (p ++ [47]).length by simp, List.drop_left]
    · intro e2
      have := congrArg List.length e2
      simp at this
/-- What the program's At gathers. -/
theorem Cut.at {t : List Nd} {p : List UInt8} {i j : Nat} (ht : Tree t) (h : Cut t p i j) : atL t p = (if p = [] then [root] else []) ++ ((t.take j).drop i).map (trimN p) := by
  unfold atL
  rw [if_pos ((tree_iff t).2 ht)]
  by_cases h0 : p = []
  · subst h0
    rw [if_pos rfl, if_pos rfl, h.all ht.path]
    have : t.map (trimN []) = t := by
      conv => rhs; rw [← List.map_id t]
      exact List.map_congr_left fun n hn => trim_nil (ht.path n hn)
    rw [this]
    rfl
  · rw [if_neg h0, if_neg h0, h.filter ht.path, List.nil_append]
    refine List.map_congr_left fun n hn => ?_
    obtain ⟨m, _, _, e⟩ := mem_mid hn
    exact (trim_cut (ht.path n (List.mem_of_getElem? e)) h0 (h.b n hn).2).symm
/-- A node's path as the program counts it from the root. -/
def underN (p : List UInt8) (n : Nd) : Nd := { n with path := Lib.trimSuffix (p ++ 47 :: n.path) [47] }
theorem suffix_snoc (l : List UInt8) : Lib.trimSuffix (l ++ [47]) [47] = l := by
  unfold Lib.trimSuffix Lib.hasSuffix
  rw [if_pos (List.isSuffixOf_iff_suffix.2 ⟨l, rfl⟩)]
  simp
theorem suffix_no {l : List UInt8} (h : l.getLast? ≠ some 47) : Lib.trimSuffix l [47] = l := by
  unfold Lib.trimSuffix Lib.hasSuffix
  rw [if_neg]
  intro e
  obtain ⟨r, e⟩ := List.isSuffixOf_iff_suffix.1 e
  exact h (by rw [← e]; simp)
theorem path_last {n : List UInt8} (h : pathL n = true) : n.getLast? ≠ some 47 := by
  intro e
  obtain ⟨r, rfl⟩ := List.getLast?_eq_some_iff.1 e
  exact path_tail_ne (p := r) (r := []) h rfl
theorem under_place {p : List UInt8} {n : Nd} (h : n.path = [] ∨ pathL n.path = true) : underN p n = placeN p n := by
  unfold underN placeN
  congr 1
  rcases h with h | h
  · rw [h, place_nil]
    exact suffix_snoc p
  · rw [place_ne p (path_ne h)]
    refine suffix_no ?_
    have := path_last h
    rw [List.getLast?_append]
    intro e
    apply this
    have hne := path_ne h
    obtain ⟨x, r, hx⟩ := List.exists_cons_of_ne_nil hne
    rw [hx] at e ⊢
    simpa using e
theorem under_all {p : List UInt8} {v : List Nd} (h : rightV v = true) : v.map (underN p) = v.map (placeN p) := List.map_congr_left fun n hn => under_place (((val_iff v).1 h).path n hn)
/- step by step -/
def goesB (l : List Nd) (p : List UInt8) : Bool := (match l.getLast? with | none => true | some y => decide (ordL y.path p < 0)) && dirB l (parentL p)
theorem sorted_pre {a b : List Nd} (h : Sorted (a ++ b)) : Sorted a := (List.pairwise_append.1 h).1
theorem tree_prefix {a b : List Nd} (h : Tree (a ++ b)) : Tree a := by
  refine ⟨?_, sorted_pre h.sorted, fun n hn => h.path n (List.mem_append_left _ hn), fun n hn => h.right n (List.mem_append_left _ hn), fun n hn => ?_⟩
  · have := h.len
    rw [List.length_append] at this
    omega
  · rcases h.dir n (List.mem_append_left _ hn) with e | ⟨d, hd, e, k⟩
    · exact .inl e
    · rcases List.mem_append.1 hd with hd | hd
      · exact .inr ⟨d, hd, e, k⟩
      · have h1 : ordL n.path d.path < 0 := (List.pairwise_append.1 h.sorted).2.2 n hn d hd
        have h2 := up_lt (h.path n (List.mem_append_left _ hn))
        rw [e] at h1
        exact absurd h1 (ord_neg h2)
theorem tree_take {t : List Nd} (h : treeB t = true) (k : Nat) : treeB (t.take k) = true := by
  have := (tree_iff t).1 h
  rw [← List.take_append_drop k t] at this
  exact (tree_iff _).2 (tree_prefix this)
theorem sorted_snoc {l : List Nd} {x : Nd} (hl : Sorted l) : Sorted (l ++ [x]) ↔ (match l.getLast? with | none => true | some y => decide (ordL y.path x.path < 0)) = true := by
  rcases List.eq_nil_or_concat l with rfl | ⟨r, y, rfl⟩
  · simp [Sorted]
  · rw [List.concat_eq_append] at hl ⊢
    rw [List.getLast?_append, List.getLast?_singleton]
    simp only [Option.some_or, decide_eq_true_eq]
    have hl' := hl
    unfold Sorted at hl ⊢
    rw [List.pairwise_append]
    constructor
    · rintro ⟨_, _, h⟩; exact h y (by simp) x (by simp)
    · intro h
      refine ⟨hl', List.pairwise_singleton _ _, fun n hn m hm => ?_⟩
      rw [List.mem_singleton] at hm
      subst hm
      rcases List.mem_append.1 hn with hn | hn
      · exact ord_lt ((List.pairwise_append.1 hl).2.2 n hn y (by simp)) h
      · rw [List.mem_singleton] at hn; subst hn; exact h
theorem tree_snoc {l : List Nd} {x : Nd} (hl : treeB l = true) (hm : l.length < 1000) : treeB (l ++ [x]) = (pathL x.path && rightB x && goesB l x.path) := by
  have ht := (tree_iff l).1 hl
  rw [Bool.eq_iff_iff, tree_iff, Bool.and_eq_true, Bool.and_eq_true]
  unfold goesB
  rw [Bool.and_eq_true, ← sorted_snoc ht.sorted]
  constructor
  · intro h
    have hxp := h.path x (by simp)
    refine ⟨⟨hxp, h.right x (by simp)⟩, h.sorted, ?_⟩
    rw [show parentL x.path = upL x.path by unfold parentL; rw [if_pos hxp]]
    refine (dir_iff ht.sorted _).2 ?_
    rcases h.dir x (by simp) with e | ⟨d, hd, e, k⟩
    · exact .inl e
    · rcases List.mem_append.1 hd with hd | hd
      · exact .inr ⟨d, hd, e, k⟩
      · rw [List.mem_singleton] at hd
        subst hd
        have := up_lt hxp
        rw [← e] at this
        exact absurd this (ord_irr _)
  · rintro ⟨⟨h1, h2⟩, h3, h4⟩
    rw [show parentL x.path = upL x.path by unfold parentL; rw [if_pos h1]] at h4
    have h5 := (dir_iff ht.sorted _).1 h4
    have up : ∀ q, Dir l q → Dir (l ++ [x]) q := fun q hq => by
      rcases hq with e | ⟨d, hd, e, k⟩
      · exact .inl e
      · exact .inr ⟨d, List.mem_append_left _ hd, e, k⟩
    refine ⟨by rw [List.length_append, List.length_singleton]; omega, h3, fun n hn => ?_, fun n hn => ?_, fun n hn => ?_⟩
    · rcases List.mem_append.1 hn with hn | hn
      · exact ht.path n hn
      · rw [List.mem_singleton] at hn; subst hn; exact h1
    · rcases List.mem_append.1 hn with hn | hn
      · exact ht.right n hn
      · rw [List.mem_singleton] at hn; subst hn; exact h2
    · rcases List.mem_append.1 hn with hn | hn
      · exact up _ (ht.dir n hn)
      · rw [List.mem_singleton] at hn; subst hn; exact up _ h5
theorem tree_step {t : List Nd} {k : Nat} {x : Nd} (hx : t[k]? = some x) (h : treeB (t.take k) = true) (hm : t.length ≤ 1000) : treeB (t.take (k + 1)) = (pathL x.path && rightB x && goesB (t.take k) x.path) := by
  have hk := (List.getElem?_eq_some_iff.1 hx).1
  rw [List.take_add_one, hx, Option.toList_some]
  exact tree_snoc h (by rw [List.length_take]; omega)
theorem tree_stop {t : List Nd} {k : Nat} (h : treeB (t.take k) = false) : treeB t = false := by
  rw [Bool.eq_false_iff]
  intro e
  rw [tree_take e k] at h
  cases h
end Go.Proofs.YtmpmmebmhffaeaaGreatDoor.TP
end
