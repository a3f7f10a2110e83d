/- Layer 9: a tree made bare is a bare tree; the contract of the document's Bare. -/
import Derived.Test.YtfkaackhikbbkaaGreatDoorArQVals
namespace Go.Proofs.YtfkaackhikbbkaaGreatDoor
open Go.RowKit Go.Lib Go.BigFrame
namespace HV
open OM TP TM TG TW TR HX AB AP

theorem dig_dig : ∀ d, d < 16 → isDig (UInt8.ofNat (HR.dig d)) = true := by decide
theorem hex_dig : ∀ l : List UInt8, (HR.hexL l).all isDig = true
  | [] => rfl
  | x :: r => by
    have hx := x.toNat_lt
    rw [HR.hexL, List.all_cons, List.all_cons, dig_dig _ (by omega), dig_dig _ (by omega), hex_dig r]
    rfl
theorem sha_32 (l : List UInt8) : (HS.shaL l).length = 32 := by
  rw [HQ.sha_cut]
  have : ∀ l : List Nat, (l.flatMap HS.be4).length = 4 * l.length := by
    intro l
    induction l with
    | nil => rfl
    | cons a l ih => rw [List.flatMap_cons, List.length_append, AB.be4_len, ih, List.length_cons]; omega
  rw [this]
  simp [HQ.stL]
theorem hex_64 (l : List UInt8) : (HR.hexL (HS.shaL l)).length = 64 := by rw [HR.hexL_len, sha_32]
theorem hex_zero (l : List UInt8) : (HR.hexL l).contains 0 = false := by
  rw [Bool.eq_false_iff]
  intro h
  have h1 := List.contains_iff_mem.1 h
  have h2 := List.all_eq_true.1 (hex_dig l) 0 h1
  exact absurd h2 (by decide)
theorem bf_path (n : Nd) : (bareF n).path = n.path := by unfold bareF; split <;> rfl
theorem bf_kind (n : Nd) : (bareF n).kind = n.kind := by unfold bareF; split <;> rfl
theorem bf_right {n : Nd} (h : rightB n = true) : rightB (bareF n) = true := by
  by_cases h2 : n.kind = 2
  · have : bareF n = n := by unfold bareF; rw [if_pos h2]
    rw [this]
    exact h
  · have e : bareF n = { n with data := HR.hexL (HS.shaL n.data) } := by unfold bareF; rw [if_neg h2]
    rw [e]
    unfold rightB at h ⊢
    by_cases h1 : n.kind = 1
    · simp only [h1, ↓reduceIte, Bool.and_eq_true, decide_eq_true_eq] at h ⊢
      exact ⟨⟨by rw [hex_64]; omega, h.1.2⟩, h.2⟩
    · by_cases h3 : n.kind = 3
      · simp only [h3, Bool.and_eq_true, decide_eq_true_eq] at h ⊢
        simp only [show ¬ (3 : Int) = 1 by decide, show ¬ (3 : Int) = 2 by decide, ↓reduceIte, Bool.and_eq_true, decide_eq_true_eq, Bool.not_eq_true'] at h ⊢
        exact ⟨⟨⟨hex_zero _, by rw [hex_64]; omega⟩, by rw [hex_64]; omega⟩, h.2⟩
      · simp only [h1, h2, h3, ↓reduceIte] at h
        exact absurd h (by simp)
theorem bare_tree {ts : List Nd} (h : Tree ts) : Tree (ts.map bareF) := by
  refine ⟨by rw [List.length_map]; exact h.len, ?_, fun n hn => ?_, fun n hn => ?_, fun n hn => ?_⟩
  · unfold Sorted
    rw [List.pairwise_map]
    exact h.sorted.imp (fun {a b} hab => by unfold lt at hab ⊢; rw [bf_path, bf_path]; exact hab)
  · obtain ⟨x, hx, rfl⟩ := List.mem_map.1 hn
    rw [bf_path]
    exact h.path x hx
  · obtain ⟨x, hx, rfl⟩ := List.mem_map.1 hn
    exact bf_right (h.right x hx)
  · obtain ⟨x, hx, rfl⟩ := List.mem_map.1 hn
    rw [bf_path]
    rcases h.dir x hx with h0 | ⟨d, hd, hp, hk⟩
    · exact .inl h0
    · exact .inr ⟨bareF d, List.mem_map_of_mem hd, by rw [bf_path]; exact hp, by rw [bf_kind]; exact hk⟩
theorem bare_bare {ts : List Nd} (h : treeB ts = true) : bareB (ts.map bareF) = true := by
  unfold bareB
  rw [(tree_iff _).2 (bare_tree ((tree_iff ts).1 h)), Bool.true_and, List.all_eq_true]
  intro n hn
  obtain ⟨x, hx, rfl⟩ := List.mem_map.1 hn
  unfold bareN
  by_cases h2 : x.kind = 2
  · rw [bf_kind, decide_eq_true h2]
    rfl
  · have e : (bareF x).data = HR.hexL (HS.shaL x.data) := by unfold bareF; rw [if_neg h2]
    rw [e]
    unfold fingB
    rw [hex_64, hex_dig]
    simp
set_option maxRecDepth 100000 in
set_option maxHeartbeats 1600000 in
theorem rbare9_any (ao : Option Addr) (ca : Nat) (ts : List Nd) (w : World) (h : LayN w ao ts) (hs : Small ts) (hl : ts.length ≤ maxLen) (hd : ∀ n ∈ ts, n.kind ≠ 2 → n.data.length ≤ 100000) :
    Calls Tryz.prog 11 #[.slice ao ts.length ca] w (BarePost ts w) := by
  have CC := Lib.hid (rcheck_any ao ca ts w h hs hl)
  unfold BarePost
  cases ht : treeB ts with
  | false =>
    have e0 : checkE ts = 60 := by unfold checkE; rw [ht]; rfl
    rw [e0] at CC
    obtain ⟨n, hn⟩ : ∃ n, ts.length = n := ⟨_, rfl⟩
    rw [hn] at CC ⊢
    simp only [Bool.false_eq_true, ↓reduceIte]
    clear h hs hl hn ht e0 hd
    go_enter Tryz.func11, Tryz.ntmps11
    repeat (first | (go_at_call 29; refine CC.out.mono ?_; rintro r w1 ⟨rfl, hb⟩; simp only []; have B1 := Lib.hid hb; clear hb) | go_skip | go_guarded | go_step | go_upon)
    go_ret2
    exact ⟨rfl, B1.out⟩
  | true =>
    have e0 : checkE ts = 0 := by unfold checkE; rw [ht]; rfl
    rw [e0] at CC
    simp only [↓reduceIte]
    have t := (tree_iff ts).1 ht
    have CV : Hid (∀ W, Below w.heap.size w W → Calls Tryz.prog 30 #[.slice ao ts.length ca] W fun r w' => ∃ v, r = .returned v ∧ w'.ownsRow W.heap.size 25 4 v ts.length (nodesC (ts.map bareF)) ∧ Below W.heap.size W w') := Lib.hid (fun W hW => rvalues_any ao ca ts W (h.below hW) t.len hd)
    obtain ⟨n, hn⟩ : ∃ n, ts.length = n := ⟨_, rfl⟩
    rw [hn] at CC CV ⊢
    clear h hs hl hn ht e0 hd t
    go_enter Tryz.func11, Tryz.ntmps11
    repeat (first | (go_at_call 29; fail) | go_skip | go_guarded | go_step | go_upon)
    refine CC.out.mono ?_
    rintro r w1 ⟨rfl, hb⟩
    simp only []
    have B1 := Lib.hid hb
    clear hb
    repeat (first | (go_at_call 30; fail) | go_skip | go_guarded | go_step | go_upon)
    refine (CV.out _ B1.out).mono ?_
    rintro r w2 ⟨v, rfl, ho, hb⟩
    simp only []
    have B2 := Lib.hid (B1.out.trans (hb.mono B1.out.size))
    have O2 := Lib.hid (owns_base ho w.heap.size B1.out.size)
    clear ho hb
    repeat (first | go_skip | go_guarded | go_step | go_upon)
    go_ret2
    exact ⟨v, rfl, O2.out, B2.out⟩
end HV
end Go.Proofs.YtfkaackhikbbkaaGreatDoor
