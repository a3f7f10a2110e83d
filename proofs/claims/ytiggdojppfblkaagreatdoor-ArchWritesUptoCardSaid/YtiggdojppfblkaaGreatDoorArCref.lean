/- Layer 3: the contracts of the document's answer: Num, Text, Flag. -/
import Derived.Test.YtiggdojppfblkaaGreatDoorArWrt
import Derived.Deep.RegionHeld3
import Derived.Deep.RegionWith
namespace Go.Proofs.YtiggdojppfblkaaGreatDoor
open Go.RowKit Go.Lib
namespace CX
open CP CR

theorem conv_one (W : World) (g : Nat) (m : Nat) (hm : m < 256) (h : W.cell? ⟨g, 0, none⟩ = some (.int .u8 (m : Int))) :
    (convert 48 9 (.slice (some ⟨g, 0, none⟩) 1 1)).run Tryz.prog W = .ok (.string ⟨#[UInt8.ofNat m]⟩) W :=
  run_convert_bytes_back (P := Tryz.prog) W 48 9 5 ⟨g, 0, none⟩ 1 [UInt8.ofNat m] Tryz.underlying48 Tryz.underlying5 Tryz.underlying9 (fun j hj => by
    have e : j = 0 := by simpa using hj
    subst e
    simp only [List.getElem_cons_zero]
    rw [byte_of hm]
    exact h)
theorem rnum_neg (n : Int) (w : World) (h : n < 0) : Calls Tryz.prog 39 #[.int .i64 n] w (NumPost [] w) := by
  go_enter Tryz.func39, Tryz.ntmps39
  go_wp2
  go_ret
  exact ⟨_, rfl, rfl, Below.refl _ _⟩
set_option maxRecDepth 100000 in
set_option maxHeartbeats 3200000 in
theorem rnum_nat (n : Nat) : ∀ (w : World), n < 2 ^ 63 → Calls Tryz.prog 39 #[.int .i64 n] w (NumPost (nm n) w) := by
  induction n using Nat.strongRecOn with
  | ind n ih =>
    intro w hn
    by_cases h : n < 128
    · have hz0 : ¬ (n : Int) < 0 := by omega
      have hz1 : (n : Int) < 128 := by omega
      have HF := Lib.hid (nm_lt h)
      have kc := fun (W : World) (g : Nat) => conv_one W g n (by omega)
      clear ih
      go_enter Tryz.func39, Tryz.ntmps39
      go_wp2
      go_ret
      exact ⟨_, rfl, by rw [HF.out], (Below.refl _ _).alloc (Nat.le_refl _) _⟩
    · have hz0 : ¬ (n : Int) < 0 := by omega
      have hz1 : ¬ (n : Int) < 128 := by omega
      have HF := Lib.hid (nm_ge (n := n) (by omega))
      have ex : IntKind.u8.wrap (IntKind.i64.wrap (128 + (n : Int).tmod 128)) = ((n % 128 + 128 : Nat) : Int) := by
        rw [Int.tmod_eq_emod_of_nonneg (by omega), IntKind.wrap_i64]
        simp [IntKind.wrap, IntKind.bits, IntKind.signed]
        omega
      have ed : IntKind.i64.wrap ((n : Int) / 128) = ((n / 128 : Nat) : Int) := by
        rw [IntKind.wrap_i64]
        omega
      have cR : ∀ W, Calls Tryz.prog 39 #[.int .i64 (IntKind.i64.wrap ((n : Int) / 128))] W (NumPost (nm (n / 128)) W) := fun W => by
        rw [ed]
        exact ih (n / 128) (by omega) W (by omega)
      have kc := fun (W : World) (g : Nat) (h : W.cell? ⟨g, 0, none⟩ = some (.int .u8 (IntKind.u8.wrap (IntKind.i64.wrap (128 + (n : Int).tmod 128))))) => conv_one W g (n % 128 + 128) (by omega) (by rw [h, ex])
      have hl9 : (nm (n / 128)).length ≤ 9 := by
        have e9 : (128 : Nat) ^ (9 - 0) = 2 ^ 63 := by decide
        have := nm_length (n := n / 128) (k := 0) (by decide) (by omega)
        omega
      clear ex ed
      clear ih
      go_enter Tryz.func39, Tryz.ntmps39
      go_wp2_with fail
      go_region_with (first | (go_at_call 39; refine (cR _).mono ?_; rintro e w2 ⟨t, rfl, ht, hb⟩; have c0 := (hb.cell (p := ⟨w.heap.size, 0, none⟩) (by simp)).trans (World.cell?_alloc_at _ _ _ _ rfl); have HB := Lib.hid (show Below w.heap.size w w2 from Below.trans (by repeat' (first | exact Below.refl _ _ | refine Below.drew ?_ | refine Below.alloc ?_ (by first | omega | simp) _)) (hb.mono (by simp))); have Ht := Lib.hid ht; have hts : t.size ≤ 9 := (by rw [Lib.size_eq, ht]; exact hl9); clear ht hb) | (go_at_call 39; refine (cR _).mono ?_; rintro e w2 ⟨t, rfl, ht, hb⟩; have HB := Lib.hid (show Below w.heap.size w w2 from Below.trans (by repeat' (first | exact Below.refl _ _ | refine Below.drew ?_ | refine Below.alloc ?_ (by first | omega | simp) _)) (hb.mono (by simp))); have Ht := Lib.hid ht; have hts : t.size ≤ 9 := (by rw [Lib.size_eq, ht]; exact hl9); clear ht hb))
      all_goals
        go_wp2_with fail
        go_ret
        refine ⟨_, rfl, ?_, ?_⟩
        · rw [HF.out, ← Ht.out]
          simp [ByteArray.data_append]
        · repeat' (first | exact HB.out | refine Below.drew ?_ | refine Below.alloc ?_ (by have := HB.out.size; first | omega | (simp; omega) | simp) _)
end CX
end Go.Proofs.YtiggdojppfblkaaGreatDoor
