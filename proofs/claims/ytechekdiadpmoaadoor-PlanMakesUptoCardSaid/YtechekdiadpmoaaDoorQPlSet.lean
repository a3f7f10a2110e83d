/- Layer 13: the first of the rules that applies; what is done at an item. -/
import Derived.Test.YtechekdiadpmoaaDoorQPlRule
set_option linter.all false
set_option maxRecDepth 100000
set_option maxHeartbeats 25600000
namespace Go.Proofs.YtechekdiadpmoaaDoor
open Go.RowKit Go.Lib Go.Maps Go.BigFrame
namespace PR
open OM TM PL PM PB

def fstL : List (Int × Bool) → Int
  | [] => 0
  | x :: r => if x.2 = true then x.1 else fstL r
section
variable (v0 v1 : Value) (mo : Option Addr) (mc : Nat) (M : List Pm) (pr fo : Int) (ba fa : Bool) (b : Nat) (cs : List Pi) (i : Pi)
def rulesL (M : List Pm) (pr fo : Int) (ba : Bool) (cs : List Pi) (i : Pi) : List (Int × Bool) := [rule0 cs i, side fo, rule2 M i, rule3 pr i, rule4 ba i]
/-- The five method values, in their order. -/
def fnV (s : Value) (k : Nat) : Value := match k with
  | 0 => .func (.func 46) #[s] #[]
  | 1 => .func (.func 47) #[s] #[]
  | 2 => .func (.func 48) #[s] #[]
  | 3 => .func (.func 49) #[s] #[]
  | _ => .func (.func 50) #[s] #[]
theorem fst_drop {l : List (Int × Bool)} {k : Nat} {x : Int × Bool} (h : l[k]? = some x) : fstL (l.drop k) = if x.2 = true then x.1 else fstL (l.drop (k + 1)) := by
  obtain ⟨hl, hx⟩ := List.getElem?_eq_some_iff.1 h
  rw [List.drop_eq_getElem_cons hl, hx]
  rfl
def FIn (w wr : World) (F : Int) (l : List (Int × Bool)) (k : Nat) : Prop := F = fstL (l.drop k) ∧ Below w.heap.size w wr
set_option maxRecDepth 100000 in
set_option maxHeartbeats 6400000 in
theorem first_any (g : Nat) (w : World) (h : SetAt w mo mc M b cs) (hp : i.1.length ≤ 1048576) (hg : g < w.heap.size) (hf : ∀ k, k < 5 → w.cell? ⟨g, k, none⟩ = some (fnV (setV v0 v1 mo M.length mc pr fo ba fa b) k)) :
    Calls Tryd.prog 45 #[itV i, .slice (some ⟨g, 0, none⟩) 5 5] w fun r w' => r = .returned (.int .i64 (fstL (rulesL M pr fo ba cs i))) ∧ Below w.heap.size w w' := by
  have e0 : ∀ args w, (callFunc 46 args).run Tryd.prog w = .ok (.enter 46 args) w := enters_of Tryd.func46 (by kernel_rfl) rfl
  have e1 : ∀ args w, (callFunc 47 args).run Tryd.prog w = .ok (.enter 47 args) w := enters_of Tryd.func47 (by kernel_rfl) rfl
  have e2 : ∀ args w, (callFunc 48 args).run Tryd.prog w = .ok (.enter 48 args) w := enters_of Tryd.func48 (by kernel_rfl) rfl
  have e3 : ∀ args w, (callFunc 49 args).run Tryd.prog w = .ok (.enter 49 args) w := enters_of Tryd.func49 (by kernel_rfl) rfl
  have e4 : ∀ args w, (callFunc 50 args).run Tryd.prog w = .ok (.enter 50 args) w := enters_of Tryd.func50 (by kernel_rfl) rfl
  obtain ⟨sv, hsv⟩ : ∃ sv, setV v0 v1 mo M.length mc pr fo ba fa b = sv := ⟨_, rfl⟩
  have C0 : Hid (∀ W, Below w.heap.size w W → Calls Tryd.prog 46 #[sv, itV i] W (Says (rule0 cs i) W)) := Lib.hid (fun W hW => by rw [← hsv]; exact choice_any v0 v1 mo mc M pr fo ba fa b cs i W (h.below hW) hp)
  have C1 : Hid (∀ W, Below w.heap.size w W → Calls Tryd.prog 47 #[sv, itV i] W (Says (side fo) W)) := Lib.hid (fun W hW => by rw [← hsv]; exact force_any v0 v1 mo mc M pr fo ba fa b i W)
  have C2 : Hid (∀ W, Below w.heap.size w W → Calls Tryd.prog 48 #[sv, itV i] W (Says (rule2 M i) W)) := Lib.hid (fun W hW => by rw [← hsv]; exact program_rule v0 v1 mo mc M pr fo ba fa b cs i W (h.below hW) hp)
  have C3 : Hid (∀ W, Below w.heap.size w W → Calls Tryd.prog 49 #[sv, itV i] W (Says (rule3 pr i) W)) := Lib.hid (fun W hW => by rw [← hsv]; exact prefer_any v0 v1 mo mc M pr fo ba fa b i W)
  have C4 : Hid (∀ W, Below w.heap.size w W → Calls Tryd.prog 50 #[sv, itV i] W (Says (rule4 ba i) W)) := Lib.hid (fun W hW => by rw [← hsv]; exact batch_any v0 v1 mo mc M pr fo ba fa b i W)
  rw [hsv] at hf
  obtain ⟨l, hl⟩ : ∃ l, rulesL M pr fo ba cs i = l := ⟨_, rfl⟩
  have HL0 : Hid (l[0]? = some (rule0 cs i)) := Lib.hid (by rw [← hl]; rfl)
  have HL1 : Hid (l[1]? = some (side fo)) := Lib.hid (by rw [← hl]; rfl)
  have HL2 : Hid (l[2]? = some (rule2 M i)) := Lib.hid (by rw [← hl]; rfl)
  have HL3 : Hid (l[3]? = some (rule3 pr i)) := Lib.hid (by rw [← hl]; rfl)
  have HL4 : Hid (l[4]? = some (rule4 ba i)) := Lib.hid (by rw [← hl]; rfl)
  have HLn : Hid (l.length = 5) := Lib.hid (by rw [← hl]; rfl)
  rw [hl]
  generalize rule0 cs i = r0 at C0 HL0
  generalize side fo = r1 at C1 HL1
  generalize rule2 M i = r2 at C2 HL2
  generalize rule3 pr i = r3 at C3 HL3
  generalize rule4 ba i = r4 at C4 HL4
  obtain ⟨r0a, r0b⟩ := r0
  obtain ⟨r1a, r1b⟩ := r1
  obtain ⟨r2a, r2b⟩ := r2
  obtain ⟨r3a, r3b⟩ := r3
  obtain ⟨r4a, r4b⟩ := r4
  obtain ⟨p, k⟩ := i
  unfold itV Says at C0 C1 C2 C3 C4
  unfold itV
  simp only at C0 C1 C2 C3 C4 ⊢
  obtain ⟨F, hF⟩ : ∃ F, fstL l = F := ⟨_, rfl⟩
  rw [hF]
  have h0 : Hid (FIn w (w.alloc (.cells #[.string ⟨p.toArray⟩, .int .i64 k] 34)) F l 0) := Lib.hid ⟨by rw [← hF]; rfl, (Below.refl _ _).alloc (Nat.le_refl _) _⟩
  have HFN := Lib.hid hf
  have HG := Lib.hid hg
  have HX : Hid (∀ W, Below (w.alloc (.cells #[.string ⟨p.toArray⟩, .int .i64 k] 34)).heap.size (w.alloc (.cells #[.string ⟨p.toArray⟩, .int .i64 k] 34)) W → W.cell? ⟨w.heap.size, 0, none⟩ = some (.string ⟨p.toArray⟩) ∧ W.cell? ⟨w.heap.size, 1, none⟩ = some (.int .i64 k)) := Lib.hid (fun W hW => by
    have hh := heap_alloc_new w (.cells #[.string ⟨p.toArray⟩, .int .i64 k] 34)
    have hlt : w.heap.size < (w.alloc (.cells #[.string ⟨p.toArray⟩, .int .i64 k] 34)).heap.size := by simp
    obtain ⟨d0, d1⟩ := cells2 hh
    exact ⟨(hW.cell (p := ⟨w.heap.size, 0, none⟩) hlt).trans d0, (hW.cell (p := ⟨w.heap.size, 1, none⟩) hlt).trans d1⟩)
  clear h hp hsv hl hF hf hg
  go_enter Tryd.func45, Tryd.ntmps45
  repeat (first | go_skip | go_guarded | go_step | go_upon)
  generalize w.alloc (.cells #[.string ⟨p.toArray⟩, .int .i64 k] 34) = w0 at h0 HX ⊢
  go_loopw [11] (fun s11 wr => ∃ j : Nat, s11 = .int .i64 j ∧ j ≤ 5 ∧ FIn w wr F l j ∧ Below w0.heap.size w0 wr) (fun s11 _ => 5 - (Go.RowKit.intOf s11).toNat)
  case atStart => exact ⟨0, rfl, by omega, h0.out, Below.refl _ _⟩
  case round =>
    obtain ⟨j, rfl, hj, hr, hb⟩ := hrel
    have HR := Lib.hid hr
    have HB := Lib.hid hb
    clear hr hb
    by_cases hlt : j < 5
    · have hjz : (j : Int) < 5 := by omega
      obtain ⟨x0, x1⟩ := HX.out _ HB.out
      have hfc := (HR.out.2.cell (p := ⟨g, j, none⟩) HG.out).trans (HFN.out j hlt)
      have hstep : ∀ x : Int × Bool, l[j]? = some x → Hid ((x.2 = true → F = x.1) ∧ (x.2 = false → F = fstL (l.drop (j + 1)))) := fun x hx => Lib.hid (by
        have := HR.out.1
        rw [fst_drop hx] at this
        refine ⟨fun h => by rw [this, if_pos h], fun h => by rw [this, if_neg (by rw [h]; simp)]⟩)
      rcases (by omega : j = 0 ∨ j = 1 ∨ j = 2 ∨ j = 3 ∨ j = 4) with rfl | rfl | rfl | rfl | rfl
      · have HS := hstep _ HL0.out
        have cx : wr.cell? ⟨g, 0, none⟩ = some (.func (.func 46) #[sv] #[]) := hfc
        have CX := Lib.hid (C0.out _ HR.out.2)
        clear hstep hfc
        cases r0b with
        | true =>
          repeat (first | (go_at_fn 46; refine CX.out.mono ?_; rintro r w1 ⟨rfl, hb1⟩; simp only []; have B1 := Lib.hid (HR.out.2.trans (hb1.mono HR.out.2.size)); clear hb1) | go_skip | go_guarded | go_step | go_upon)
          go_ret
          exact ⟨by rw [HS.out.1 rfl]; rfl, B1.out⟩
        | false =>
          repeat (first | (go_at_fn 46; refine CX.out.mono ?_; rintro r w1 ⟨rfl, hb1⟩; simp only []; have B1 := Lib.hid (HR.out.2.trans (hb1.mono HR.out.2.size)); have B2 := Lib.hid (HB.out.trans (hb1.mono HB.out.size)); clear hb1) | go_skip | go_guarded | go_step | go_upon)
          exact ⟨⟨0 + 1, by go_num, by omega, ⟨HS.out.2 rfl, B1.out⟩, B2.out⟩, by simp [Go.RowKit.intOf]⟩
      · have HS := hstep _ HL1.out
        have cx : wr.cell? ⟨g, 1, none⟩ = some (.func (.func 47) #[sv] #[]) := hfc
        have CX := Lib.hid (C1.out _ HR.out.2)
        clear hstep hfc
        cases r1b with
        | true =>
          repeat (first | (go_at_fn 47; refine CX.out.mono ?_; rintro r w1 ⟨rfl, hb1⟩; simp only []; have B1 := Lib.hid (HR.out.2.trans (hb1.mono HR.out.2.size)); clear hb1) | go_skip | go_guarded | go_step | go_upon)
          go_ret
          exact ⟨by rw [HS.out.1 rfl]; rfl, B1.out⟩
        | false =>
          repeat (first | (go_at_fn 47; refine CX.out.mono ?_; rintro r w1 ⟨rfl, hb1⟩; simp only []; have B1 := Lib.hid (HR.out.2.trans (hb1.mono HR.out.2.size)); have B2 := Lib.hid (HB.out.trans (hb1.mono HB.out.size)); clear hb1) | go_skip | go_guarded | go_step | go_upon)
          exact ⟨⟨1 + 1, by go_num, by omega, ⟨HS.out.2 rfl, B1.out⟩, B2.out⟩, by simp [Go.RowKit.intOf]⟩
      · have HS := hstep _ HL2.out
        have cx : wr.cell? ⟨g, 2, none⟩ = some (.func (.func 48) #[sv] #[]) := hfc
        have CX := Lib.hid (C2.out _ HR.out.2)
        clear hstep hfc
        cases r2b with
        | true =>
          repeat (first | (go_at_fn 48; refine CX.out.mono ?_; rintro r w1 ⟨rfl, hb1⟩; simp only []; have B1 := Lib.hid (HR.out.2.trans (hb1.mono HR.out.2.size)); clear hb1) | go_skip | go_guarded | go_step | go_upon)
          go_ret
          exact ⟨by rw [HS.out.1 rfl]; rfl, B1.out⟩
        | false =>
          repeat (first | (go_at_fn 48; refine CX.out.mono ?_; rintro r w1 ⟨rfl, hb1⟩; simp only []; have B1 := Lib.hid (HR.out.2.trans (hb1.mono HR.out.2.size)); have B2 := Lib.hid (HB.out.trans (hb1.mono HB.out.size)); clear hb1) | go_skip | go_guarded | go_step | go_upon)
          exact ⟨⟨2 + 1, by go_num, by omega, ⟨HS.out.2 rfl, B1.out⟩, B2.out⟩, by simp [Go.RowKit.intOf]⟩
      · have HS := hstep _ HL3.out
        have cx : wr.cell? ⟨g, 3, none⟩ = some (.func (.func 49) #[sv] #[]) := hfc
        have CX := Lib.hid (C3.out _ HR.out.2)
        clear hstep hfc
        cases r3b with
        | true =>
          repeat (first | (go_at_fn 49; refine CX.out.mono ?_; rintro r w1 ⟨rfl, hb1⟩; simp only []; have B1 := Lib.hid (HR.out.2.trans (hb1.mono HR.out.2.size)); clear hb1) | go_skip | go_guarded | go_step | go_upon)
          go_ret
          exact ⟨by rw [HS.out.1 rfl]; rfl, B1.out⟩
        | false =>
          repeat (first | (go_at_fn 49; refine CX.out.mono ?_; rintro r w1 ⟨rfl, hb1⟩; simp only []; have B1 := Lib.hid (HR.out.2.trans (hb1.mono HR.out.2.size)); have B2 := Lib.hid (HB.out.trans (hb1.mono HB.out.size)); clear hb1) | go_skip | go_guarded | go_step | go_upon)
          exact ⟨⟨3 + 1, by go_num, by omega, ⟨HS.out.2 rfl, B1.out⟩, B2.out⟩, by simp [Go.RowKit.intOf]⟩
      · have HS := hstep _ HL4.out
        have cx : wr.cell? ⟨g, 4, none⟩ = some (.func (.func 50) #[sv] #[]) := hfc
        have CX := Lib.hid (C4.out _ HR.out.2)
        clear hstep hfc
        cases r4b with
        | true =>
          repeat (first | (go_at_fn 50; refine CX.out.mono ?_; rintro r w1 ⟨rfl, hb1⟩; simp only []; have B1 := Lib.hid (HR.out.2.trans (hb1.mono HR.out.2.size)); clear hb1) | go_skip | go_guarded | go_step | go_upon)
          go_ret
          exact ⟨by rw [HS.out.1 rfl]; rfl, B1.out⟩
        | false =>
          repeat (first | (go_at_fn 50; refine CX.out.mono ?_; rintro r w1 ⟨rfl, hb1⟩; simp only []; have B1 := Lib.hid (HR.out.2.trans (hb1.mono HR.out.2.size)); have B2 := Lib.hid (HB.out.trans (hb1.mono HB.out.size)); clear hb1) | go_skip | go_guarded | go_step | go_upon)
          exact ⟨⟨4 + 1, by go_num, by omega, ⟨HS.out.2 rfl, B1.out⟩, B2.out⟩, by simp [Go.RowKit.intOf]⟩
    · obtain rfl : j = 5 := by omega
      have hz : Hid (F = 0) := Lib.hid (by
        have := HR.out.1
        rw [List.drop_of_length_le (by rw [HLn.out]; exact Nat.le_refl _)] at this
        exact this)
      repeat (first | go_skip | go_guarded | go_step | go_upon)
      go_ret
      exact ⟨by rw [hz.out]; rfl, HR.out.2⟩
theorem settle_eq (M : List Pm) (pr fo : Int) (ba : Bool) (cs : List Pi) (i : Pi) :
    (if fstL (rulesL M pr fo ba cs i) = 4 then dirI i.2 else fstL (rulesL M pr fo ba cs i)) = settleL ⟨fo, pr, ba, fun q => decide (progL M q ≠ [])⟩ cs i := by
  unfold settleL rulesL rule0 rule2 rule3 rule4 side
  simp only [fstL]
  cases hf : findP cs i.1 with
  | some d => simp
  | none =>
    simp only [Option.isSome_none, Bool.false_eq_true, if_false]
    by_cases f1 : fo = 1
    · simp [f1]
    · by_cases f2 : fo = 2
      · simp [f2]
      · simp only [f1, f2, if_false, Bool.false_eq_true, or_self]
        by_cases h4 : i.2 = 4
        · by_cases hp : progL M i.1 = []
          · by_cases p1 : pr = 1
            · simp [h4, hp, p1]
            · by_cases p2 : pr = 2
              · simp [h4, hp, p2]
              · simp [h4, hp, p1, p2]
          · simp [h4, hp]
        · by_cases hb : ba = true
          · simp [h4, hb]
          · simp [h4, hb]
theorem own5 (w : World) (t : TypeId) (a b c d e : Value) : ∀ k, k < 5 → (w.alloc (.cells #[a, b, c, d, e] t)).cell? ⟨w.heap.size, k, none⟩ = #[a, b, c, d, e][k]? := by
  intro k hk
  have hh := heap_alloc_new w (.cells #[a, b, c, d, e] t)
  generalize w.alloc (.cells #[a, b, c, d, e] t) = W at hh
  rcases (by omega : k = 0 ∨ k = 1 ∨ k = 2 ∨ k = 3 ∨ k = 4) with rfl | rfl | rfl | rfl | rfl <;> simp [World.cell?, hh]
set_option maxRecDepth 100000 in
set_option maxHeartbeats 6400000 in
theorem settle_any (w : World) (h : SetAt w mo mc M b cs) (hp : i.1.length ≤ 1048576) :
    Calls Tryd.prog 29 #[setV v0 v1 mo M.length mc pr fo ba fa b, itV i] w fun r w' => r = .returned (.int .i64 (settleL ⟨fo, pr, ba, fun q => decide (progL M q ≠ [])⟩ cs i)) ∧ Below w.heap.size w w' := by
  have CF := fun (g : Nat) (W : World) (hW : Below w.heap.size w W) => first_any v0 v1 mo mc M pr fo ba fa b cs i g W (h.below hW) hp
  rw [← settle_eq]
  obtain ⟨F, hF⟩ : ∃ F, fstL (rulesL M pr fo ba cs i) = F := ⟨_, rfl⟩
  rw [hF] at CF ⊢
  have HCF := Lib.hid CF
  obtain ⟨nm, hnm⟩ : ∃ nm, M.length = nm := ⟨_, rfl⟩
  rw [hnm] at HCF ⊢
  obtain ⟨p, k⟩ := i
  unfold setV itV at HCF
  unfold setV itV
  simp only at HCF ⊢
  clear h hp CF hF hnm
  have hsz1 : ((w.alloc (.cells #[v0, v1, .slice mo nm mc, .int .i64 pr, .int .i64 fo, .bool ba, .bool fa, .map (some b)] 71)).alloc (.cells #[.string ⟨p.toArray⟩, .int .i64 k] 34)).heap.size = w.heap.size + 1 + 1 := by simp
  have hb1 : Below w.heap.size w ((w.alloc (.cells #[v0, v1, .slice mo nm mc, .int .i64 pr, .int .i64 fo, .bool ba, .bool fa, .map (some b)] 71)).alloc (.cells #[.string ⟨p.toArray⟩, .int .i64 k] 34)) := ((Below.refl _ _).alloc (Nat.le_refl _) _).alloc (by simp) _
  have hc1 : ((w.alloc (.cells #[v0, v1, .slice mo nm mc, .int .i64 pr, .int .i64 fo, .bool ba, .bool fa, .map (some b)] 71)).alloc (.cells #[.string ⟨p.toArray⟩, .int .i64 k] 34)).cell? ⟨w.heap.size + 1, 1, none⟩ = some (.int .i64 k) := by
    have hs : (w.alloc (.cells #[v0, v1, .slice mo nm mc, .int .i64 pr, .int .i64 fo, .bool ba, .bool fa, .map (some b)] 71)).heap.size = w.heap.size + 1 := by simp
    have := (cells2 (heap_alloc_new (w.alloc (.cells #[v0, v1, .slice mo nm mc, .int .i64 pr, .int .i64 fo, .bool ba, .bool fa, .map (some b)] 71)) (.cells #[.string ⟨p.toArray⟩, .int .i64 k] 34))).2
    rw [hs] at this
    exact this
  have HS1 := Lib.hid hsz1
  have HB1 := Lib.hid hb1
  have HC1 := Lib.hid hc1
  clear hsz1 hb1 hc1
  go_enter Tryd.func29, Tryd.ntmps29
  repeat (first | go_skip | go_guarded | go_step | go_upon)
  generalize (w.alloc (.cells #[v0, v1, .slice mo nm mc, .int .i64 pr, .int .i64 fo, .bool ba, .bool fa, .map (some b)] 71)).alloc (.cells #[.string ⟨p.toArray⟩, .int .i64 k] 34) = w2 at HS1 HB1 HC1 ⊢
  obtain ⟨sv, hsv⟩ : ∃ sv, Value.agg #[v0, v1, .slice mo nm mc, .int .i64 pr, .int .i64 fo, .bool ba, .bool fa, .map (some b)] = sv := ⟨_, rfl⟩
  rw [hsv] at HCF ⊢
  have h5 := own5 w2 113 (.func (.func 46) #[sv] #[]) (.func (.func 47) #[sv] #[]) (.func (.func 48) #[sv] #[]) (.func (.func 49) #[sv] #[]) (.func (.func 50) #[sv] #[])
  rw [HS1.out] at h5
  have hb3 : Below w2.heap.size w2 (w2.alloc (.cells #[.func (.func 46) #[sv] #[], .func (.func 47) #[sv] #[], .func (.func 48) #[sv] #[], .func (.func 49) #[sv] #[], .func (.func 50) #[sv] #[]] 113)) := (Below.refl _ _).alloc (Nat.le_refl _) _
  have hs3 : (w2.alloc (.cells #[.func (.func 46) #[sv] #[], .func (.func 47) #[sv] #[], .func (.func 48) #[sv] #[], .func (.func 49) #[sv] #[], .func (.func 50) #[sv] #[]] 113)).heap.size = w2.heap.size + 1 := by simp
  generalize w2.alloc (.cells #[.func (.func 46) #[sv] #[], .func (.func 47) #[sv] #[], .func (.func 48) #[sv] #[], .func (.func 49) #[sv] #[], .func (.func 50) #[sv] #[]] 113) = w3 at h5 hb3 hs3 ⊢
  have hB3 : Below w.heap.size w w3 := HB1.out.trans (hb3.mono HB1.out.size)
  refine (HCF.out (w.heap.size + 1 + 1) w3 hB3 (by rw [hs3, HS1.out]; omega) (fun k hk => by
    rw [h5 k hk]
    rcases (by omega : k = 0 ∨ k = 1 ∨ k = 2 ∨ k = 3 ∨ k = 4) with rfl | rfl | rfl | rfl | rfl <;> rfl)).mono ?_
  rintro r w4 ⟨rfl, hb⟩
  simp only []
  have HB4 : Hid (Below w.heap.size w w4) := Lib.hid (hB3.trans (hb.mono hB3.size))
  have hb24 : Below w2.heap.size w2 w4 := hb3.trans (hb.mono hb3.size)
  have c1 : w4.cell? ⟨w.heap.size + 1, 1, none⟩ = some (.int .i64 k) := (hb24.cell (p := ⟨w.heap.size + 1, 1, none⟩) (by show w.heap.size + 1 < _; rw [HS1.out]; omega)).trans HC1.out
  clear hb hb24 hB3 hb3 hs3 h5 hsv HCF
  by_cases hF4 : F = 4
  · have z : (F == 4) = true := by simpa using hF4
    have HP : Hid ((if F = 4 then dirI k else F) = dirI k) := Lib.hid (if_pos hF4)
    clear hF4
    repeat (first | go_skip | go_guarded | go_step | go_upon)
    refine (direction_any k _).mono ?_
    rintro r w5 ⟨rfl, hb⟩
    simp only []
    have HB5 : Hid (Below w.heap.size w w5) := Lib.hid (HB4.out.trans (hb.mono HB4.out.size))
    clear hb
    repeat (first | go_skip | go_guarded | go_step | go_upon)
    go_ret
    exact ⟨by rw [HP.out]; rfl, HB5.out⟩
  · have z : (F == 4) = false := by simpa using hF4
    have HP : Hid ((if F = 4 then dirI k else F) = F) := Lib.hid (if_neg hF4)
    clear hF4
    repeat (first | go_skip | go_guarded | go_step | go_upon)
    go_ret
    exact ⟨by rw [HP.out]; rfl, HB4.out⟩
end
end PR
end Go.Proofs.YtechekdiadpmoaaDoor
