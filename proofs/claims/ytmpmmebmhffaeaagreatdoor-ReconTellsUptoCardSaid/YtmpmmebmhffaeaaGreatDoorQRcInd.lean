/- Layer 12: items of three trees, at each path: by induction upon A's value. -/
import Derived.Test.YtmpmmebmhffaeaaGreatDoorQRcItems
import Derived.Test.YtmpmmebmhffaeaaGreatDoorQArWide
set_option linter.all false
set_option maxRecDepth 100000
set_option maxHeartbeats 25600000
namespace Go.Proofs.YtmpmmebmhffaeaaGreatDoor
open Go.RowKit Go.Lib Go.Maps Go.BigFrame Go.Sort
namespace RC
open OM TP TM TR TG TW NP

theorem val_in {t : List Nd} (ht : Tree t) {p : List UInt8} (hp : p = [] ∨ pathL p = true) : InV (valP t p) where
  len := val_len ht p
  small := fun x hx => by
    rcases val_mem hx with rfl | hx
    · exact ⟨by simp [root], by simp [root]⟩
    · exact small_tree ht x hx
  pre := fun x hx => by
    have := val_pre ht hp x hx
    unfold hdP
    exact this
theorem keys_ok {o a b : List Nd} {k : List UInt8} (h : k ∈ namesK o a b) : k ∈ keysL o ∨ k ∈ keysL a ∨ k ∈ keysL b := by
  unfold namesK at h
  rw [mem_ordK] at h
  simp only [List.mem_append] at h
  rcases h with (h | h) | h
  · exact .inl h
  · exact .inr (.inl h)
  · exact .inr (.inr h)
section
variable {xo ta tb : List Nd}
/-- A name at a path: what stands right there is what the trees have there. -/
theorem name_ok (ho : Tree xo) (ha : Tree ta) (hb : Tree tb) {p k : List UInt8} (hp : p = [] ∨ pathL p = true) (h : k ∈ namesK (valP xo p) (valP ta p) (valP tb p)) :
    pathL (belowP p k) = true ∧ subL (valP xo p) k = valP xo (belowP p k) ∧ subL (valP ta p) k = valP ta (belowP p k) ∧ subL (valP tb p) k = valP tb (belowP p k) ∧ SubOk (valP xo p) (valP ta p) (valP tb p) k := by
  have hk : k ≠ [] ∧ 47 ∉ k ∧ pathL (belowP p k) = true := by
    rcases keys_ok h with h | h | h
    · exact key_name ho hp h
    · exact key_name ha hp h
    · exact key_name hb hp h
  obtain ⟨h1, h2, h3⟩ := hk
  have eo := sub_val ho hp h1 h2
  have ea := sub_val ha hp h1 h2
  have eb := sub_val hb hp h1 h2
  refine ⟨h3, eo, ea, eb, ⟨?_, by rw [eo]; exact val_in ho (.inr h3), by rw [ea]; exact val_in ha (.inr h3), by rw [eb]; exact val_in hb (.inr h3)⟩⟩
  have h4 := small_path h3
  have h5 : k.length ≤ (belowP p k).length := by
    rcases hp with rfl | hp
    · rw [below_nil]; exact Nat.le_refl _
    · rw [below_ne hp, List.length_append, List.length_cons]; omega
  omega
theorem items_any (ho : Tree xo) (ha : Tree ta) (hb : Tree tb) : ∀ (N : Nat) (p : List UInt8), (p = [] ∨ pathL p = true) → (valP ta p).length < N → ∀ (b1 b2 b3 : Nat) (vo va vb : Value) (w : World), NF.Env w → TrAt w p (valP xo p) (valP ta p) (valP tb p) b1 b2 b3 vo va vb →
    Calls Tryz.prog 15 #[trV p b1 b2 b3 vo va vb] w (ItemsPost (itemsL p (valP xo p) (valP ta p) (valP tb p)) w)
  | 0, _, _, h, _, _, _, _, _, _, _, _, _ => absurd h (Nat.not_lt_zero _)
  | N + 1, p, hp, hN, b1, b2, b3, vo, va, vb, w, he, h => by
    refine items_walk p _ _ _ b1 b2 b3 vo va vb w he h (val_len ho p) (val_len ha p) (val_len hb p) ?_ (fun hd k hk => ?_)
    · rcases hp with rfl | hp
      · simp
      · exact small_path hp
    · obtain ⟨h1, eo, ea, eb, hs⟩ := name_ok ho ha hb hp hk
      refine ⟨hs, fun c1 c2 c3 uo ua ub W hE hT => ?_⟩
      have hne : valP ta p ≠ [] := fun e => by rw [e] at hd; cases hd.1
      have hlt := sub_len (valP ta p) k hne
      rw [eo, ea, eb] at hT ⊢
      rw [ea] at hlt
      exact items_any ho ha hb N (belowP p k) (.inr h1) (by omega) c1 c2 c3 uo ua ub W hE hT
end
end RC
end Go.Proofs.YtmpmmebmhffaeaaGreatDoor
