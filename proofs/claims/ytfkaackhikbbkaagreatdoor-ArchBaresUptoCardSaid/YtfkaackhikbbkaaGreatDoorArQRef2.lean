/- Layer 4: the contract of the document's Hex. -/
import Derived.Test.YtfkaackhikbbkaaGreatDoorMg4
import Derived.Laws.IdiomStrings
import Derived.Laws.OwnMore
import Derived.RegionTactic
import Derived.ChangeAlike
import Derived.Deep.RegionWith
import Derived.Deep.RegionHeld3
import Derived.Deep.AppendLies
import Derived.Lib.BufferRead
import Derived.Laws.BytesArg
import Derived.Lib.QuietBelow
namespace Go.Proofs.YtfkaackhikbbkaaGreatDoor
open Go.RowKit Go.Lib
namespace HR
open HP

def dig (n : Nat) : Nat := if n < 10 then 48 + n else 87 + n
/-- Two digits a byte. -/
def hexL : List UInt8 → List UInt8
  | [] => []
  | x :: r => UInt8.ofNat (dig (x.toNat / 16)) :: UInt8.ofNat (dig (x.toNat % 16)) :: hexL r
theorem hexL_len : ∀ l : List UInt8, (hexL l).length = 2 * l.length
  | [] => rfl
  | x :: r => by rw [hexL, List.length_cons, List.length_cons, List.length_cons, hexL_len r]; omega
theorem hexL_snoc (x : UInt8) : ∀ l : List UInt8, hexL (l ++ [x]) = hexL l ++ [UInt8.ofNat (dig (x.toNat / 16)), UInt8.ofNat (dig (x.toNat % 16))]
  | [] => rfl
  | y :: r => by rw [List.cons_append, hexL, hexL_snoc x r, hexL]; rfl
def cells (l : List UInt8) : List Value := l.map fun b => .int .u8 b.toNat
theorem cells_app (a b : List UInt8) : cells (a ++ b) = cells a ++ cells b := by simp [cells]
theorem cells_length (a : List UInt8) : (cells a).length = a.length := by simp [cells]
theorem info_parts {t : TypeId} {i : Option TypeInfo} {z : Option Value} {a b : Nat} (h : i.map (fun i => (i.zero, i.size, i.bytes)) = some (z, a, b)) : ∃ i0, i = some i0 ∧ i0.zero = z ∧ i0.size = a ∧ i0.bytes = b := by
  cases i with
  | none => simp at h
  | some i0 =>
    simp only [Option.map_some, Option.some.injEq, Prod.mk.injEq] at h
    exact ⟨i0, rfl, h.1, h.2.1, h.2.2⟩
theorem two_new (w : World) (v u : Value) (t : TypeId) : ∀ (j : Nat) x, [v, u][j]? = some x → (w.alloc (.cells #[v, u] t)).cell? ((⟨w.heap.size, 0, none⟩ : Addr).add j) = some x := by
  intro j x hj
  match j, hj with
  | 0, hj => simp at hj; subst hj; simp [Addr.add]
  | 1, hj => simp at hj; subst hj; simp [Addr.add]
  | j + 2, hj => simp at hj
theorem conv_own {w : World} {B g cap : Nat} {l : List UInt8} (h : w.ownsRow B 5 1 (.slice (some ⟨g, 0, none⟩) l.length cap) l.length (cells l)) :
    (convert 48 9 (.slice (some ⟨g, 0, none⟩) l.length cap)).run Tryz.prog w = .ok (.string ⟨l.toArray⟩) w :=
  run_convert_bytes_back (P := Tryz.prog) w 48 9 5 ⟨g, 0, none⟩ cap l Tryz.underlying48 Tryz.underlying5 Tryz.underlying9 (fun j hj => World.ownsRow.cells h rfl j _ (by simp [cells, List.getElem?_eq_getElem hj]))
theorem byte_of' {n : Nat} (h : n < 256) : (UInt8.ofNat n).toNat = n := by simp; omega
def digs : ByteArray := ⟨#[48, 49, 50, 51, 52, 53, 54, 55, 56, 57, 97, 98, 99, 100, 101, 102]⟩
theorem digs_size : digs.size = 16 := rfl
theorem digs_at : ∀ i, i < 16 → (digs[i]?).getD 0 = UInt8.ofNat (dig i) := by decide +kernel
theorem dig_lt {i : Nat} (h : i < 16) : dig i < 256 := by unfold dig; split <;> omega
@[go_sem high] theorem fold_digs : (⟨#[48, 49, 50, 51, 52, 53, 54, 55, 56, 57, 97, 98, 99, 100, 101, 102]⟩ : ByteArray) = digs := rfl
theorem run_index_digs {P : Program} (w : World) (t : TypeId) (k : IntKind) (i : Int) (h : P.underlying t = some .string) (h0 : 0 ≤ i) (h1 : i ≤ 15) :
    (Instr.index t (.string digs) (.int k i)).run P w = .ok (.int .u8 (dig i.toNat : Nat)) w := by
  have hi : 0 ≤ i ∧ i < (digs.size : Int) := by rw [digs_size]; omega
  have h2 : i.toNat < digs.size := by rw [digs_size]; omega
  rw [run_index_string w t digs k i h, dif_pos hi]
  have e := digs_at i.toNat (by omega)
  rw [ByteArray.getElem?_lt' _ _ h2, Option.getD_some] at e
  rw [e, byte_of' (dig_lt (by omega))]
@[go_sem high] theorem wrap_hi (b : UInt8) : IntKind.u8.wrap ((b.toNat : Int) / 16) = (b.toNat : Int) / 16 := by
  have := b.toNat_lt
  simp [IntKind.wrap, IntKind.bits, IntKind.signed]
  omega
@[go_sem high] theorem wrap_lo (b : UInt8) : IntKind.u8.wrap ((b.toNat : Int) % 16) = (b.toNat : Int) % 16 := by
  have := b.toNat_lt
  simp [IntKind.wrap, IntKind.bits, IntKind.signed]
  omega
@[go_sem high] theorem tmod_lo (b : UInt8) : ((b.toNat : Int)).tmod 16 = (b.toNat : Int) % 16 := Int.tmod_eq_emod_of_nonneg (by omega)
@[go_sem high] theorem run_index_hi {P : Program} (w : World) (t : TypeId) (k : IntKind) (b : UInt8) (h : P.underlying t = some .string) :
    (Instr.index t (.string digs) (.int k ((b.toNat : Int) / 16))).run P w = .ok (.int .u8 (dig (b.toNat / 16) : Nat)) w := by
  have := b.toNat_lt
  exact run_index_digs w t k _ h (by omega) (by omega)
@[go_sem high] theorem run_index_lo {P : Program} (w : World) (t : TypeId) (k : IntKind) (b : UInt8) (h : P.underlying t = some .string) :
    (Instr.index t (.string digs) (.int k ((b.toNat : Int) % 16))).run P w = .ok (.int .u8 (dig (b.toNat % 16) : Nat)) w :=
  run_index_digs w t k _ h (by omega) (by omega)
set_option maxRecDepth 100000 in
set_option maxHeartbeats 1600000 in
theorem rhex_any (s : ByteArray) (w : World) (hs : 2 * s.size ≤ 140737488355328) :
    Calls Tryz.prog 62 #[.string s] w fun e w' => e = .returned (.string ⟨(hexL s.data.toList).toArray⟩) ∧ Below w.heap.size w w' := by
  have infoU : (Tryz.prog.info? 5).map (fun i => (i.zero, i.size, i.bytes)) = some (some (.int .u8 0), 1, 1) := by kernel_rfl
  obtain ⟨i0, hi, hz0, hz1, hz2⟩ := info_parts (t := 5) infoU
  clear infoU
  have HS := Lib.hid (size_data s)
  go_enter Tryz.func62, Tryz.ntmps62
  go_wp2
  go_loopw [4, 5] (fun s4 s5 wr => ∃ k : Nat, k ≤ s.size ∧ s5 = .int .i64 k ∧ wr.ownsRow w.heap.size 5 1 s4 (hexL (s.data.toList.take k)).length (cells (hexL (s.data.toList.take k))) ∧ Below w.heap.size w wr) (fun _ s5 _ => s.size - (Go.RowKit.intOf s5).toNat)
  case atStart => exact ⟨0, Nat.zero_le _, rfl, World.ownsRow_nil _ _ _ _, Below.refl _ _⟩
  case round =>
    obtain ⟨k, hk, rfl, hown, hb⟩ := hrel
    have HO := Lib.hid hown
    have HB := Lib.hid hb
    have hbs := hb.size
    have hl : (hexL (s.data.toList.take k)).length = 2 * k := by rw [hexL_len, List.length_take, ← HS.out]; omega
    clear hown hb
    by_cases hlt : k < s.size
    · have hz : (k : Int) < s.size := by omega
      have hget := Lib.hid (Lib.data_getElem? s k hlt)
      have hc := (s[k]).toNat_lt
      have hcz : ((s[k].toNat : Nat) : Int) < 256 := by omega
      clear hc
      go_wp2_with fail
      go_region_held3 (fun w' => True) (trivial) ((refine step_append_lies _ (by rfl) _ _ _ (by rfl) w.heap.size 5 i0 (.int .u8 0) 1 1 Tryz.underlying48 hi hz0 hz1 hz2 rfl (by decide) _ _ _ (by rfl) (World.ownsRow.alloc (w := wr.drew) HO.out _) ⟨wr.heap.size, 0, none⟩ 2 2 [_, _] (by rfl) rfl (two_new _ _ _ _) (fun x hx => by simp at hx; rcases hx with rfl | rfl <;> rfl) (by decide) (by unfold maxLen; omega) (by omega) (by simp; omega) (wr.heap.size + 1) (by simp) ?_; intro g cap w1 hown1 hgrow hat hlt; have HO3 := Lib.hid hown1; have HG3 := Lib.hid hgrow; clear hown1 hgrow))
      all_goals
        have hl2 : (hexL (s.data.toList.take (k + 1))).length = 2 * k + 2 := by rw [hexL_len, List.length_take, ← HS.out]; omega
        have hcs : cells (hexL (s.data.toList.take (k + 1))) = cells (hexL (s.data.toList.take k)) ++ [.int .u8 (dig (s[k].toNat / 16) : Nat), .int .u8 (dig (s[k].toNat % 16) : Nat)] := by
          have h8 := s[k].toNat_lt
          rw [take_at hget.out, hexL_snoc, cells_app]
          congr 1
          unfold cells
          rw [List.map_cons, List.map_cons, List.map_nil, byte_of' (dig_lt (by omega)), byte_of' (dig_lt (by omega))]
        have HO4 : Hid (w1.ownsRow w.heap.size 5 1 (.slice (some ⟨g, 0, none⟩) (2 * k + 2) cap) (hexL (s.data.toList.take (k + 1))).length (cells (hexL (s.data.toList.take (k + 1))))) := Lib.hid (by
          rw [hl2, hcs]
          have h := HO3.out
          rw [hl] at h
          exact h)
        have HB4 := Lib.hid (((show Below w.heap.size w wr.drew from HB.out.drew).alloc hbs _).grown HG3.out (by simp; omega) (fun j ej => (HO.out.lt j ej).1))
        clear hl2 hcs
        go_wp2_with fail
        go_roundw
        case rel => exact ⟨_, _, _, _, _, _, _, _, _, _, _, _, _, _, _, _, _, _, _, _, _, _, _, ⟨k + 1, by omega, by go_num, HO4.out, HB4.out⟩, rfl⟩
        case measure => simp [Go.RowKit.intOf]; omega
    · have hz : ¬ (k : Int) < s.size := by omega
      have HT : Hid (s.data.toList.take k = s.data.toList) := Lib.hid (List.take_of_length_le (by rw [← HS.out]; omega))
      rcases HO.out.2 with ⟨hv, h0⟩ | ⟨g, cap, cur, hv, _⟩
      · subst hv
        have h9 : 2 * k = 0 := by omega
        have HN : Hid (hexL s.data.toList = []) := Lib.hid (List.eq_nil_of_length_eq_zero (by rw [← HT.out]; omega))
        have hcv : (convert 48 9 (.slice none 0 0)).run Tryz.prog wr = .ok (.string ⟨#[]⟩) wr := run_convert_nil_bytes wr 48 9 5 0 Tryz.underlying48 Tryz.underlying5 Tryz.underlying9
        clear h0 h9
        go_wp2_with fail
        go_ret
        exact ⟨by rw [HN.out]; rfl, HB.out⟩
      · subst hv
        have hcv := conv_own HO.out
        rw [hl] at hcv
        go_wp2_with fail
        go_ret
        exact ⟨by rw [HT.out]; rfl, HB.out⟩
end HR
end Go.Proofs.YtfkaackhikbbkaaGreatDoor
