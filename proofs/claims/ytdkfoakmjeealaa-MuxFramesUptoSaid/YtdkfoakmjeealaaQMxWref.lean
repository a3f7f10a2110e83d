/- Layer 3: the contracts of the document's answer: Num, Text, Flag. -/
import Derived.Test.YtdkfoakmjeealaaQMxWr
import Derived.Deep.RegionHeld3
import Derived.Deep.RegionWith
set_option linter.all false
set_option maxRecDepth 100000
set_option maxHeartbeats 25600000
namespace Go.Proofs.Ytdkfoakmjeealaa
open Go.RowKit Go.Lib
namespace CQ
open CP CR
theorem num_any (n : Int) (w : World) (h : n < 2 ^ 63) : Calls Try.prog 39 #[.int .i64 n] w (NumPost (numS n) w) := by
  unfold numS
  by_cases h0 : n < 0
  · rw [if_pos h0]
    exact num_neg n w h0
  · rw [if_neg h0]
    obtain ⟨m, rfl⟩ := nat_i64 (n := n) (by omega)
    exact num_nat m w (by omega)
theorem wflag_post (b : Bool) (w : World) : Calls Try.prog 41 #[.bool b] w (NumPost (flagS b) w) :=
  (wflag_any b w).mono fun _ _ ⟨he, hw⟩ => ⟨_, he, rfl, hw ▸ Below.refl _ _⟩
theorem cat_data {t v : ByteArray} : (t ++ v).data.toList = t.data.toList ++ v.data.toList := by simp [ByteArray.data_append]
theorem rd_head {m : Nat} {r : List UInt8} (h : m < 2 ^ 63) : rd 0 0 (nm m ++ r) = (m, (nm m).length, 0) := by
  have e9 : (128 : Nat) ^ (9 - 0) = 2 ^ 63 := by decide
  rw [rd_nm (by decide) (by omega) (.inl rfl)]
  simp
theorem cnt_head {t r : List UInt8} (h : t.length < 2 ^ 63) : cnt (textS t ++ r) (t.length : Int) 1 = (t.length, (nm t.length).length, 0) := by
  have h1 : rd 0 0 (textS t ++ r) = (t.length, (nm t.length).length, 0) := by
    unfold textS
    rw [List.append_assoc]
    exact rd_head h
  refine cnt_ok h1 (by omega) ?_
  rw [show max (1 : Int) 1 = 1 from rfl, Int.ediv_one]
  unfold textS
  simp only [List.length_append]
  omega
theorem text_mid {t r : List UInt8} : ((textS t ++ r).drop (nm t.length).length).take t.length = t := by
  unfold textS
  rw [List.append_assoc, List.drop_left, List.take_left]
theorem text_end {t r : List UInt8} : (textS t ++ r).drop ((nm t.length).length + t.length) = r := by
  have e : (textS t).length = (nm t.length).length + t.length := by unfold textS; rw [List.length_append]
  rw [← e, List.drop_left]
end CQ
namespace CX
open CP CR

theorem conv_one (W : World) (g : Nat) (m : Nat) (hm : m < 256) (h : W.cell? ⟨g, 0, none⟩ = some (.int .u8 (m : Int))) :
    (convert 93 9 (.slice (some ⟨g, 0, none⟩) 1 1)).run Try.prog W = .ok (.string ⟨#[UInt8.ofNat m]⟩) W :=
  run_convert_bytes_back (P := Try.prog) W 93 9 5 ⟨g, 0, none⟩ 1 [UInt8.ofNat m] Try.underlying93 Try.underlying5 Try.underlying9 (fun j hj => by
    have e : j = 0 := by simpa using hj
    subst e
    simp only [List.getElem_cons_zero]
    rw [byte_of hm]
    exact h)
theorem rnum_neg (n : Int) (w : World) (h : n < 0) : Calls Try.prog 52 #[.int .i64 n] w (NumPost [] w) := by
  go_enter Try.func52, Try.ntmps52
  go_wp2
  go_ret
  exact ⟨_, rfl, rfl, Below.refl _ _⟩
set_option maxRecDepth 100000 in
set_option maxHeartbeats 3200000 in
theorem rnum_nat (n : Nat) : ∀ (w : World), n < 2 ^ 63 → Calls Try.prog 52 #[.int .i64 n] w (NumPost (nm n) w) := by
  induction n using Nat.strongRecOn with
  | ind n ih =>
    intro w hn
    by_cases h : n < 128
    · have hz0 : ¬ (n : Int) < 0 := by omega
      have hz1 : (n : Int) < 128 := by omega
      have HF := Lib.hid (nm_lt h)
      have kc := fun (W : World) (g : Nat) => conv_one W g n (by omega)
      clear ih
      go_enter Try.func52, Try.ntmps52
      go_wp2
      go_ret
      exact ⟨_, rfl, by rw [HF.out], (Below.refl _ _).alloc (Nat.le_refl _) _⟩
    · have hz0 : ¬ (n : Int) < 0 := by omega
      have hz1 : ¬ (n : Int) < 128 := by omega
      have HF := Lib.hid (nm_ge (n := n) (by omega))
      have ex : IntKind.u8.wrap (IntKind.i64.wrap (128 + (n : Int).tmod 128)) = ((n % 128 + 128 : Nat) : Int) := by
        rw [Int.tmod_eq_emod_of_nonneg (by omega), IntKind.wrap_i64]
        simp [IntKind.wrap, IntKind.bits, IntKind.signed]
        omega
      have ed : IntKind.i64.wrap ((n : Int) / 128) = ((n / 128 : Nat) : Int) := by
        rw [IntKind.wrap_i64]
        omega
      have cR : ∀ W, Calls Try.prog 52 #[.int .i64 (IntKind.i64.wrap ((n : Int) / 128))] W (NumPost (nm (n / 128)) W) := fun W => by
        rw [ed]
        exact ih (n / 128) (by omega) W (by omega)
      have kc := fun (W : World) (g : Nat) (h : W.cell? ⟨g, 0, none⟩ = some (.int .u8 (IntKind.u8.wrap (IntKind.i64.wrap (128 + (n : Int).tmod 128))))) => conv_one W g (n % 128 + 128) (by omega) (by rw [h, ex])
      have hl9 : (nm (n / 128)).length ≤ 9 := by
        have e9 : (128 : Nat) ^ (9 - 0) = 2 ^ 63 := by decide
        have := nm_length (n := n / 128) (k := 0) (by decide) (by omega)
        omega
      clear ex ed
      clear ih
      go_enter Try.func52, Try.ntmps52
      go_wp2_with fail
      go_region_with (first | (go_at_call 52; refine (cR _).mono ?_; rintro e w2 ⟨t, rfl, ht, hb⟩; have c0 := (hb.cell (p := ⟨w.heap.size, 0, none⟩) (by simp)).trans (World.cell?_alloc_at _ _ _ _ rfl); have HB := Lib.hid (show Below w.heap.size w w2 from Below.trans (by repeat' (first | exact Below.refl _ _ | refine Below.drew ?_ | refine Below.alloc ?_ (by first | omega | simp) _)) (hb.mono (by simp))); have Ht := Lib.hid ht; have hts : t.size ≤ 9 := (by rw [Lib.size_eq, ht]; exact hl9); clear ht hb) | (go_at_call 52; refine (cR _).mono ?_; rintro e w2 ⟨t, rfl, ht, hb⟩; have HB := Lib.hid (show Below w.heap.size w w2 from Below.trans (by repeat' (first | exact Below.refl _ _ | refine Below.drew ?_ | refine Below.alloc ?_ (by first | omega | simp) _)) (hb.mono (by simp))); have Ht := Lib.hid ht; have hts : t.size ≤ 9 := (by rw [Lib.size_eq, ht]; exact hl9); clear ht hb))
      all_goals
        go_wp2_with fail
        go_ret
        refine ⟨_, rfl, ?_, ?_⟩
        · rw [HF.out, ← Ht.out]
          simp [ByteArray.data_append]
        · repeat' (first | exact HB.out | refine Below.drew ?_ | refine Below.alloc ?_ (by have := HB.out.size; first | omega | (simp; omega) | simp) _)
open CQ
theorem rnum_any (n : Int) (w : World) (h : n < 2 ^ 63) : Calls Try.prog 52 #[.int .i64 n] w (NumPost (numS n) w) := by
  unfold numS
  by_cases h0 : n < 0
  · rw [if_pos h0]
    exact rnum_neg n w h0
  · rw [if_neg h0]
    obtain ⟨m, rfl⟩ := nat_i64 (n := n) (by omega)
    exact rnum_nat m w (by omega)
theorem rtext_any (s : ByteArray) (w : World) (h : (nm s.size).length + s.size ≤ maxLen) : Calls Try.prog 53 #[.string s] w (NumPost (textS s.data.toList) w) := by
  have hs : s.size < 2 ^ 63 := by unfold maxLen at h; omega
  have cN := rnum_nat s.size w hs
  unfold maxLen at h
  go_enter Try.func53, Try.ntmps53
  go_wp2_with fail
  refine cN.mono ?_
  rintro e w1 ⟨t, rfl, ht, hb⟩
  have Ht := Lib.hid ht
  have hts : t.size + s.size ≤ 9223372036854775807 := by rw [Lib.size_eq t, ht]; omega
  clear ht h
  go_wp2
  go_ret
  exact ⟨_, rfl, by unfold textS; rw [← Lib.size_eq, ← Ht.out]; simp [ByteArray.data_append], hb⟩
theorem rflag_any (b : Bool) (w : World) : Calls Try.prog 54 #[.bool b] w (NumPost (flagS b) w) := by
  cases b
  all_goals
    go_enter Try.func54, Try.ntmps54
    go_wp2
    go_ret
    exact ⟨_, rfl, rfl, Below.refl _ _⟩
theorem nm_nine {n : Nat} (h : n < 2 ^ 63) : (nm n).length ≤ 9 := by
  have e9 : (128 : Nat) ^ (9 - 0) = 2 ^ 63 := by decide
  have := nm_length (n := n) (k := 0) (by decide) (by omega)
  omega
theorem numS_nine {n : Int} (h : n < 2 ^ 63) : (numS n).length ≤ 9 := by
  unfold numS
  by_cases h0 : n < 0
  · rw [if_pos h0]; simp
  · rw [if_neg h0]
    exact nm_nine (by omega)
theorem same_text {a b : ByteArray} {l : List UInt8} (h : a.data.toList = l) (h2 : b.data.toList = l) : (a.toList == b.toList) = true := by rw [Lib.toList_data, Lib.toList_data, h, h2]; simp
end CX
end Go.Proofs.Ytdkfoakmjeealaa
