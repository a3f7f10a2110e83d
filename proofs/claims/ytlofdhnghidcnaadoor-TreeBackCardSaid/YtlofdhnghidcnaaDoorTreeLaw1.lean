/- Layer 6: the document's Put, both ways; the statements' own lent, kept. -/
import Derived.Test.YtlofdhnghidcnaaDoorTreeGoF
import Derived.Test.YtlofdhnghidcnaaDoorTreeRefB
namespace Go.Proofs.YtlofdhnghidcnaaDoor
open Go.RowKit Go.Lib Go.BigFrame
namespace TR
open OM TP TM
theorem rput_any (ao : Option Addr) (ca : Nat) (ts : List Nd) (p : List UInt8) (bo : Option Addr) (cb : Nat) (v : List Nd) (w : World) (h : PutIn w ao ts p bo cb v) :
    Calls Tryd.prog 11 #[.slice ao ts.length ca, txt p, .slice bo v.length cb] w (PutPost (putL ts p v) w) := by
  cases ht : treeB ts with
  | false => exact rput_no ao ca ts p bo cb v w h (.inl ht)
  | true =>
    cases hv : rightV v with
    | false => exact rput_no ao ca ts p bo cb v w h (.inr (.inl hv))
    | true =>
      cases hp : NP.pathL p with
      | false => exact rput_no ao ca ts p bo cb v w h (.inr (.inr (.inl hp)))
      | true =>
        by_cases h0 : v = []
        · exact rput_yes ao ca ts p bo cb v w h ht hv hp (.inl h0)
        · cases hd : dirB ts (NP.parentL p) with
          | false => exact rput_no ao ca ts p bo cb v w h (.inr (.inr (.inr ⟨h0, hd⟩)))
          | true => exact rput_yes ao ca ts p bo cb v w h ht hv hp (.inr hd)
end TR
namespace TL
open OM TP TM TR TG

def spare : Nd := ⟨[115, 112, 97, 114, 101], 0, [], 0⟩
def room : Nd := ⟨[114, 111, 111, 109], 0, [], 0⟩
theorem own_cap {w : World} {base n c : Nat} {a : Option Addr} {xs : List Value} (h : w.ownsRow base 32 4 (.slice a n c) n xs) : n ≤ c := by
  rcases h.2 with ⟨e, h0⟩ | ⟨g, cap, cur, e, _, _, h1, _⟩
  · omega
  · simp only [Value.slice.injEq, true_and] at e
    omega
/-- What lent answers: nodes of their own, with spare room behind. -/
def LentAt (ts : List Nd) (B g c : Nat) (W : World) : Prop := W.ownsRow B 32 4 (.slice (some ⟨g, 0, none⟩) (ts.length + 2) c) (ts.length + 2) (nodesC (ts ++ [spare, room]))
def LentPost (ts : List Nd) (w : World) (r : Ending) (w' : World) : Prop :=
  ∃ g c, r = .returned (.slice (some ⟨g, 0, none⟩) ts.length c) ∧ LentAt ts w.heap.size g c w' ∧ Below w.heap.size w w'
theorem LentAt.below {ts : List Nd} {B g c : Nat} {W W' : World} (h : LentAt ts B g c W) (hb : Below W.heap.size W W') : LentAt ts B g c W' := owns_below h hb
theorem LentAt.lay {ts : List Nd} {B g c : Nat} {W : World} (h : LentAt ts B g c W) : LayN W (some ⟨g, 0, none⟩) ts := by
  have h1 := h
  unfold LentAt at h1
  rw [show ts.length + 2 = (ts ++ [spare, room]).length by simp] at h1
  obtain ⟨ao, c', e, hl⟩ := lay_own h1
  simp only [Value.slice.injEq, true_and] at e
  obtain ⟨rfl, rfl⟩ := e
  have := hl.take ts.length
  rw [List.take_left] at this
  exact this
theorem LentAt.cap {ts : List Nd} {B g c : Nat} {W : World} (h : LentAt ts B g c W) : ts.length + 2 ≤ c := own_cap h
theorem LentAt.tail {ts : List Nd} {B g c : Nat} {W : World} (h : LentAt ts B g c W) : W.cell? ⟨g, ts.length * 4, none⟩ = some (txt spare.path) ∧ W.cell? ⟨g, (ts.length + 1) * 4, none⟩ = some (txt room.path) := by
  have a := (nodes_at (ts ++ [spare, room]) ts.length spare (by rw [List.getElem?_append_right (Nat.le_refl _), Nat.sub_self]; rfl)).1
  have b := (nodes_at (ts ++ [spare, room]) (ts.length + 1) room (by rw [List.getElem?_append_right (by omega), Nat.add_sub_cancel_left]; rfl)).1
  exact ⟨(World.ownsRow.cellAt h _ (by omega)).trans a, (World.ownsRow.cellAt h _ (by omega)).trans b⟩
theorem two_new (W : World) (t : TypeId) : ∀ (j : Nat) (u : Value), (nodesC [spare, room])[j]? = some u → (W.alloc (.cells #[txt spare.path, .int .i64 0, .string ⟨#[]⟩, .int .i64 0, txt room.path, .int .i64 0, .string ⟨#[]⟩, .int .i64 0] t)).cell? ((⟨W.heap.size, 0, none⟩ : Addr).add j) = some u := by
  have h := heap_alloc_new W (.cells #[txt spare.path, .int .i64 0, .string ⟨#[]⟩, .int .i64 0, txt room.path, .int .i64 0, .string ⟨#[]⟩, .int .i64 0] t)
  intro j u hu
  have e : (⟨W.heap.size, 0, none⟩ : Addr).add j = ⟨W.heap.size, j, none⟩ := by simp [Addr.add]; omega
  rw [e, cell_of_row _ _ j _ _ _ h]
  match j with
  | 0 => exact hu
  | 1 => exact hu
  | 2 => exact hu
  | 3 => exact hu
  | 4 => exact hu
  | 5 => exact hu
  | 6 => exact hu
  | 7 => exact hu
  | j + 8 => cases hu
set_option maxRecDepth 100000 in
set_option maxHeartbeats 3200000 in
theorem lent_any (ao : Option Addr) (ca : Nat) (ts : List Nd) (w : World) (h : LayN w ao ts) (hno : ao = none → ca = 0) (hl : ts.length ≤ 1048576) :
    Calls Tryd.prog 9 #[.slice ao ts.length ca] w (LentPost ts w) := by
  obtain ⟨i0, hi, hz0, hz1, hz2⟩ := info_parts infoN
  have HL := Lib.hid h
  have HNo := Lib.hid hno
  have HNl : Hid ((nodesC ts).length = ts.length * 4) := Lib.hid (nodes_len ts)
  have HNd : Hid (∀ u ∈ nodesC ts, u.oneCell' = true) := Lib.hid (nds_one ts)
  have HNd2 : Hid (∀ u ∈ nodesC [spare, room], u.oneCell' = true) := Lib.hid (nds_one _)
  have HFin : Hid (∀ g c W, W.ownsRow w.heap.size 32 4 (.slice (some ⟨g, 0, none⟩) (ts.length + 2) c) (ts.length + 2) (nodesC ts ++ nodesC [spare, room]) → LentAt ts w.heap.size g c W) := Lib.hid (fun g c W ho => by unfold LentAt; rw [nodes_app]; exact ho)
  unfold LentPost
  obtain ⟨n, hn⟩ : ∃ n, ts.length = n := ⟨_, rfl⟩
  have HN := Lib.hid hn
  rw [hn] at hl HNl HFin ⊢
  have hnz : (n : Int) ≤ 1048576 := by omega
  obtain ⟨w1, hmk, ho, hg⟩ := run_make_own (P := Tryd.prog) w w.heap.size 22 32 i0 (ndVal zeroN) 4 Tryd.underlying22 hi hz0 hz1 .i64 .i64 (n + 2) (by rw [hz2]; omega) (by unfold maxLen; omega) (Nat.le_refl _)
  rw [show ((n + 2 : Nat) : Int) = (n : Int) + 2 by omega] at hmk
  have HO1 := Lib.hid ho
  have HB1 : Hid (Below w.heap.size w w1) := Lib.hid ((Below.refl _ _).grown hg (Nat.le_refl _) (fun k hk => by cases hk))
  have hs1 := HB1.out.size
  clear h hno ho hg hn
  cases ao with
  | none =>
    have h0 : ts = [] := (PcOk.none (e := ⟨none, ca, ts⟩) ⟨HL.out, HNo.out⟩ rfl)
    have hc0 := HNo.out rfl
    subst hc0
    have hn0 : n = 0 := by rw [← HN.out, h0]; rfl
    subst hn0
    have HTs := Lib.hid h0
    rw [show ((0 : Nat) : Int) + 2 = 2 from rfl] at hmk
    clear h0
    go_enter Tryd.func9, Tryd.ntmps9
    repeat (first
      | (at_builtin; refine wpList_append_own_none rfl _ _ 22 rfl w.heap.size 32 i0 4 Tryd.underlying22 hi _ _ _ rfl HO1.out rfl ?_)
      | (at_builtin; refine wpList_append_own _ rfl _ _ 22 rfl w.heap.size 32 i0 (ndVal zeroN) 4 48 Tryd.underlying22 hi hz0 hz1 hz2 rfl (by decide) _ _ _ rfl (HO1.out.alloc _) ⟨w1.heap.size, 0, none⟩ 2 2 (nodesC [spare, room]) rfl rfl (two_new _ _) HNd2.out (by unfold maxLen; omega) (by omega) (by simp; omega) ?_; intro v' w5 hown' hgrow5 hnil5; have HB5 := Lib.hid ((HB1.out.alloc hs1 _).grown hgrow5 (by simp; omega) (fun j hj => (HO1.out.lt j hj).1)); obtain ⟨ao2, c2, rfl, hv⟩ := owns_view hown'; obtain ⟨g2, rfl, _, _, _⟩ := hv (by omega); have hc2 := own_cap hown'; have HO5 := Lib.hid hown'; have hsl := sl_to ndsl_node (some ⟨g2, 0, none⟩) 2 0 c2 0 rfl (by omega); clear hown' hgrow5 hnil5 hv hc2)
      | go_skip | go_guarded | go_step | go_upon)
    go_ret
    refine ⟨g2, c2, rfl, HFin.out _ _ _ ?_, HB5.out⟩
    rw [HTs.out]
    exact HO5.out
  | some ad =>
    have HNws := Lib.hid (lay_cells (HL.out.below HB1.out))
    go_enter Tryd.func9, Tryd.ntmps9
    repeat (first
      | (at_builtin; refine wpList_append_own _ rfl _ _ 22 rfl w.heap.size 32 i0 (ndVal zeroN) 4 48 Tryd.underlying22 hi hz0 hz1 hz2 rfl (by decide) _ _ _ rfl HO1.out ad n ca (nodesC ts) rfl HNl.out HNws.out HNd.out (by unfold maxLen; omega) (by omega) hs1 ?_; intro v' w2 hown' hgrow5 hnil5; have HB2 := Lib.hid (HB1.out.grown hgrow5 hs1 (fun j hj => (HO1.out.lt j hj).1)); have HO2 := Lib.hid hown'; have hs2 := HB2.out.size; clear hown' hgrow5 hnil5)
      | (at_builtin; refine wpList_append_own _ rfl _ _ 22 rfl w.heap.size 32 i0 (ndVal zeroN) 4 48 Tryd.underlying22 hi hz0 hz1 hz2 rfl (by decide) _ _ _ rfl (HO2.out.alloc _) ⟨w2.heap.size, 0, none⟩ 2 2 (nodesC [spare, room]) rfl rfl (two_new _ _) HNd2.out (by unfold maxLen; omega) (by omega) (by simp; omega) ?_; intro v' w5 hown' hgrow5 hnil5; have HB5 := Lib.hid ((HB2.out.alloc hs2 _).grown hgrow5 (by simp; omega) (fun j hj => (HO2.out.lt j hj).1)); rw [Nat.zero_add] at hown'; obtain ⟨ao2, c2, rfl, hv⟩ := owns_view hown'; obtain ⟨g2, rfl, _, _, _⟩ := hv (by omega); have hc2 := own_cap hown'; have HO5 := Lib.hid hown'; have hsl := sl_to ndsl_node (some ⟨g2, 0, none⟩) (n + 2) n c2 n rfl (by omega); clear hown' hgrow5 hnil5 hv hc2)
      | go_skip | go_guarded | go_step | go_upon)
    go_ret
    refine ⟨g2, c2, rfl, HFin.out _ _ _ ?_, HB5.out⟩
    have := HO5.out
    rw [List.nil_append] at this
    exact this
end TL
end Go.Proofs.YtlofdhnghidcnaaDoor
