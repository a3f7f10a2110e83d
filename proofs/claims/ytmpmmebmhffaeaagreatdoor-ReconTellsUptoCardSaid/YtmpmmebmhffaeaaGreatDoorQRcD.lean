/- Texts of this seat, put one behind the other: RcInd RcAgr. -/
import Derived.Test.YtmpmmebmhffaeaaGreatDoorQRcItems
import Derived.Test.YtmpmmebmhffaeaaGreatDoorQArWide
set_option linter.all false
set_option maxRecDepth 100000
set_option maxHeartbeats 25600000
section
/- Layer 12: items of three trees, at each path: by induction upon A's value. -/
namespace Go.Proofs.YtmpmmebmhffaeaaGreatDoor
open Go.RowKit Go.Lib Go.Maps Go.BigFrame Go.Sort
namespace RC
open OM TP TM TR TG TW NP

theorem val_in {t : List Nd} (ht : Tree t) {p : List UInt8} (hp : p = [] ∨ pathL p = true) : InV (valP t p) where
  len := val_len ht p
  small := fun x hx => by
    rcases val_mem hx with rfl | hx
    · exact ⟨by simp [root], by simp [root]⟩
    · exact small_tree ht x hx
  pre := fun x hx => by
    have := val_pre ht hp x hx
    unfold hdP
    exact this
theorem keys_ok {o a b : List Nd} {k : List UInt8} (h : k ∈ namesK o a b) : k ∈ keysL o ∨ k ∈ keysL a ∨ k ∈ keysL b := by
  unfold namesK at h
  rw [mem_ordK] at h
  simp only [List.mem_append] at h
  rcases h with (h | h) | h
  · exact .inl h
  · exact .inr (.inl h)
  · exact .inr (.inr h)
section
variable {xo ta tb : List Nd}
/-- A name at a path: what stands right there is what the trees have there. -/
theorem name_ok (ho : Tree xo) (ha : Tree ta) (hb : Tree tb) {p k : List UInt8} (hp : p = [] ∨ pathL p = true) (h : k ∈ namesK (valP xo p) (valP ta p) (valP tb p)) :
    pathL (belowP p k) = true ∧ subL (valP xo p) k = valP xo (belowP p k) ∧ subL (valP ta p) k = valP ta (belowP p k) ∧ subL (valP tb p) k = valP tb (belowP p k) ∧ SubOk (valP xo p) (valP ta p) (valP tb p) k := by
  have hk : k ≠ [] ∧ 47 ∉ k ∧ pathL (belowP p k) = true := by
    rcases keys_ok h with h | h | h
    · exact key_name ho hp h
    · exact key_name ha hp h
    · exact key_name hb hp h
  obtain ⟨h1, h2, h3⟩ := hk
  have eo := sub_val ho hp h1 h2
  have ea := sub_val ha hp h1 h2
  have eb := sub_val hb hp h1 h2
  refine ⟨h3, eo, ea, eb, ⟨?_, by rw [eo]; exact val_in ho (.inr h3), by rw [ea]; exact val_in ha (.inr h3), by rw [eb]; exact val_in hb (.inr h3)⟩⟩
  have h4 := small_path h3
  have h5 : k.length ≤ (belowP p k).length := by
    rcases hp with rfl | hp
    · rw [below_nil]; exact Nat.le_refl _
    · rw [below_ne hp, List.length_append, List.length_cons]; omega
  omega
theorem items_any (ho : Tree xo) (ha : Tree ta) (hb : Tree tb) : ∀ (N : Nat) (p : List UInt8), (p = [] ∨ pathL p = true) → (valP ta p).length < N → ∀ (b1 b2 b3 : Nat) (vo va vb : Value) (w : World), NF.Env w → TrAt w p (valP xo p) (valP ta p) (valP tb p) b1 b2 b3 vo va vb →
    Calls Tryz.prog 15 #[trV p b1 b2 b3 vo va vb] w (ItemsPost (itemsL p (valP xo p) (valP ta p) (valP tb p)) w)
  | 0, _, _, h, _, _, _, _, _, _, _, _, _ => absurd h (Nat.not_lt_zero _)
  | N + 1, p, hp, hN, b1, b2, b3, vo, va, vb, w, he, h => by
    refine items_walk p _ _ _ b1 b2 b3 vo va vb w he h (val_len ho p) (val_len ha p) (val_len hb p) ?_ (fun hd k hk => ?_)
    · rcases hp with rfl | hp
      · simp
      · exact small_path hp
    · obtain ⟨h1, eo, ea, eb, hs⟩ := name_ok ho ha hb hp hk
      refine ⟨hs, fun c1 c2 c3 uo ua ub W hE hT => ?_⟩
      have hne : valP ta p ≠ [] := fun e => by rw [e] at hd; cases hd.1
      have hlt := sub_len (valP ta p) k hne
      rw [eo, ea, eb] at hT ⊢
      rw [ea] at hlt
      exact items_any ho ha hb N (belowP p k) (.inr h1) (by omega) c1 c2 c3 uo ua ub W hE hT
end
end RC
end Go.Proofs.YtmpmmebmhffaeaaGreatDoor
end
section
/- Layer 12: the contract of agreed; of three trees, at each path. -/
namespace Go.Proofs.YtmpmmebmhffaeaaGreatDoor
open Go.RowKit Go.Lib Go.Maps Go.BigFrame Go.Sort
namespace RC
open OM TP TM TR TG TW NP

def AgreePost (l : List Nd) (w : World) (r : Ending) (w' : World) : Prop := ∃ ao c, r = .returned (.slice ao l.length c) ∧ ((ao = none → c = 0) ∧ l.length ≤ c) ∧ LayN w' ao l ∧ Below w.heap.size w w'
theorem nodesC_app (a b : List Nd) : nodesC (a ++ b) = nodesC a ++ nodesC b := by
  unfold nodesC
  rw [List.flatMap_append]
theorem append_lay {w : World} {ops : Array Oper} {rest : List Oper} {o : Oper} {a : Act} {Q : Exit → Act → World → Prop} (hgd : o.guard = none) (s x : Operand)
    (ho : o.op = .call { callee := .builtin .append, args := #[s, x], argTypes := #[22, 22] })
    (base : Nat) (i : TypeInfo) (hi : Tryz.prog.info? 40 = some i) (hz : i.zero = some (ndVal zeroN)) (hsize : i.size = 4) (hby : i.bytes = 48)
    (v : Value) (n : Nat) (xs : List Value) (hs : a.eval s = v) (hown : w.ownsRow base 40 4 v n xs)
    (ao : Option Addr) (c : Nat) (l : List Nd) (hx : a.eval x = .slice ao l.length c) (hz0 : ao = none → c = 0) (hu : LayN w ao l)
    (h63 : n + l.length ≤ maxLen) (hbytes : (n + l.length) * 48 ≤ 140737488355328) (hbase : base ≤ w.heap.size)
    (h : ∀ v' w', w'.ownsRow base 40 4 v' (n + l.length) (xs ++ nodesC l) → w.grownBy w' v.ownBlock → wpList Tryz.prog ops Q rest (a.put o.dst v') w') :
    wpList Tryz.prog ops Q (o :: rest) a w := by
  cases ao with
  | none =>
    have hl : l = [] := by
      cases l with
      | nil => rfl
      | cons y r =>
        obtain ⟨g, o', e, _⟩ := hu (by simp)
        cases e
    subst hl
    have hc := hz0 rfl
    subst hc
    exact wpList_append_own_none hgd s x 22 ho base 40 i 4 Tryz.underlying22 hi v n xs hs hown hx (h v w (by simpa [nodesC] using hown) ⟨rfl, rfl, rfl, Nat.le_refl _, fun _ _ _ => rfl⟩)
  | some ad =>
    refine wpList_append_own _ hgd s x 22 ho base 40 i (ndVal zeroN) 4 48 Tryz.underlying22 hi hz hsize hby rfl (by decide) v n xs hs hown ad l.length c (nodesC l) hx (nodes_len l) (lay_cells hu) (fun u hm => ?_) h63 hbytes hbase (fun v' w' a1 a2 _ => h v' w' a1 a2)
    obtain ⟨y, _, hy⟩ := List.mem_flatMap.1 hm
    exact nd_one y u hy
def AgreedBelow (p : List UInt8) (o a b : List Nd) : Prop := ∀ k ∈ namesK o a b, SubOk o a b k ∧ ∀ c1 c2 c3 uo ua ub W, NF.Env W → TrAt W (belowP p k) (subL o k) (subL a k) (subL b k) c1 c2 c3 uo ua ub → Calls Tryz.prog 18 #[trV (belowP p k) c1 c2 c3 uo ua ub] W (AgreePost (agreedL (subL o k) (subL a k) (subL b k)) W)
set_option maxRecDepth 100000 in
set_option maxHeartbeats 12800000 in
theorem agreed_walk (p : List UInt8) (o a b : List Nd) (b1 b2 b3 : Nat) (vo va vb : Value) (w : World) (he : NF.Env w) (h : TrAt w p o a b b1 b2 b3 vo va vb) (io : o.length ≤ 1001) (ia : a.length ≤ 1001) (ib : b.length ≤ 1001) (hp : p.length ≤ 1048576) (hn : dirV a = true ∧ dirV b = true → AgreedBelow p o a b) :
    Calls Tryz.prog 18 #[trV p b1 b2 b3 vo va vb] w (AgreePost (agreedL o a b) w) := by
  obtain ⟨i0, hi, hz0, hz1, hz2⟩ : ∃ i0, Tryz.prog.info? 40 = some i0 ∧ i0.zero = some (ndVal zeroN) ∧ i0.size = 4 ∧ i0.bytes = 48 := by
    have := infoN
    cases e : Tryz.prog.info? 40 with
    | none => rw [e] at this; cases this
    | some i0 =>
      rw [e] at this
      simp only [Option.map_some, Option.some.injEq, Prod.mk.injEq] at this
      exact ⟨i0, rfl, this.1, this.2.1, this.2.2⟩
  have AS := Lib.hid (asks h (by unfold maxLen; omega) (by unfold maxLen; omega) (by unfold maxLen; omega))
  obtain ⟨S, hS, hSd⟩ := txt_of p
  have hv : trV p b1 b2 b3 vo va vb = .agg #[.map (some b1), .map (some b2), .map (some b3), .string S, vo, va, vb] := by unfold trV; rw [hS]
  have HT := Lib.hid h
  obtain ⟨-, -, -, ⟨x1, c1, rfl, l1, z1⟩, ⟨x2, c2, rfl, l2, z2⟩, ⟨x3, c3, rfl, -⟩⟩ := h
  have L1 := Lib.hid l1
  have L2 := Lib.hid l2
  have Z1 := Lib.hid z1
  have Z2 := Lib.hid z2
  clear l1 l2 z1 z2
  have HE := Lib.hid he
  have HI := Lib.hid (agreed_step o a b)
  have HL := Lib.hid (agreed_len o a b)
  have HN := Lib.hid hn
  obtain ⟨no, hno⟩ : ∃ n, o.length = n := ⟨_, rfl⟩
  obtain ⟨na, hna⟩ : ∃ n, a.length = n := ⟨_, rfl⟩
  obtain ⟨nb, hnb⟩ : ∃ n, b.length = n := ⟨_, rfl⟩
  rw [hno, hna, hnb] at AS HT hv
  rw [hno, hna, hnb]
  have HV := Lib.hid hv
  have AD := Lib.hid AS.out.dirs
  have HV := Lib.hid hv
  rw [hv] at AD
  rw [hv]
  clear hv
  have hB0 : Below w.heap.size w (w.alloc (.cells #[.map (some b1), .map (some b2), .map (some b3), .string S, .slice x1 no c1, .slice x2 na c2, .slice x3 nb c3] 49)) := (Below.refl _ _).alloc (Nat.le_refl _) _
  have hr0 := heap_alloc_new w (.cells #[.map (some b1), .map (some b2), .map (some b3), .string S, .slice x1 no c1, .slice x2 na c2, .slice x3 nb c3] 49)
  have hs0 : (w.alloc (.cells #[.map (some b1), .map (some b2), .map (some b3), .string S, .slice x1 no c1, .slice x2 na c2, .slice x3 nb c3] 49)).heap.size = w.heap.size + 1 := by simp
  obtain ⟨W1, hW1⟩ : ∃ W1, w.alloc (.cells #[.map (some b1), .map (some b2), .map (some b3), .string S, .slice x1 no c1, .slice x2 na c2, .slice x3 nb c3] 49) = W1 := ⟨_, rfl⟩
  rw [hW1] at hB0 hr0 hs0
  have LOW : Hid (∀ W, Below W1.heap.size W1 W → Below w.heap.size w W) := Lib.hid (fun W hW => Below.trans hB0 (hW.mono hB0.size))
  have ROW : Hid (∀ W, Below W1.heap.size W1 W → W.heap[w.heap.size]? = some (.cells #[.map (some b1), .map (some b2), .map (some b3), .string S, .slice x1 no c1, .slice x2 na c2, .slice x3 nb c3] 49 (0, 0))) := Lib.hid (fun W hW => (hW.block _ (by omega)).trans hr0)
  have HW1 := Lib.hid hW1
  have B0 : Hid (Below W1.heap.size W1 W1) := Lib.hid (Below.refl _ _)
  have ABt : a = b → Hid (∀ W, Below w.heap.size w W → Calls Tryz.prog 23 #[.slice x2 na c2, .slice x3 nb c3] W fun r w' => r = .returned (.bool true) ∧ Below W.heap.size W w') := fun e => Lib.hid (by have := AS.out.ab; rw [decide_eq_true e] at this; exact this)
  have ABf : ¬ a = b → Hid (∀ W, Below w.heap.size w W → Calls Tryz.prog 23 #[.slice x2 na c2, .slice x3 nb c3] W fun r w' => r = .returned (.bool false) ∧ Below W.heap.size W w') := fun e => Lib.hid (by have := AS.out.ab; rw [decide_eq_false e] at this; exact this)
  have OAt : o = a → Hid (∀ W, Below w.heap.size w W → Calls Tryz.prog 23 #[.slice x1 no c1, .slice x2 na c2] W fun r w' => r = .returned (.bool true) ∧ Below W.heap.size W w') := fun e => Lib.hid (by have := AS.out.oa; rw [decide_eq_true e] at this; exact this)
  have OAf : ¬ o = a → Hid (∀ W, Below w.heap.size w W → Calls Tryz.prog 23 #[.slice x1 no c1, .slice x2 na c2] W fun r w' => r = .returned (.bool false) ∧ Below W.heap.size W w') := fun e => Lib.hid (by have := AS.out.oa; rw [decide_eq_false e] at this; exact this)
  have OBt : o = b → Hid (∀ W, Below w.heap.size w W → Calls Tryz.prog 23 #[.slice x1 no c1, .slice x3 nb c3] W fun r w' => r = .returned (.bool true) ∧ Below W.heap.size W w') := fun e => Lib.hid (by have := AS.out.ob; rw [decide_eq_true e] at this; exact this)
  have OBf : ¬ o = b → Hid (∀ W, Below w.heap.size w W → Calls Tryz.prog 23 #[.slice x1 no c1, .slice x3 nb c3] W fun r w' => r = .returned (.bool false) ∧ Below W.heap.size W w') := fun e => Lib.hid (by have := AS.out.ob; rw [decide_eq_false e] at this; exact this)
  obtain ⟨dd, hdd⟩ : ∃ dd, (dirV a && dirV b) = dd := ⟨_, rfl⟩
  rw [hdd] at AD
  have HD : Hid ((dirV a && dirV b) = dd) := Lib.hid hdd
  have hIO := Lib.hid io
  have hIA := Lib.hid ia
  have hIB := Lib.hid ib
  obtain ⟨c0, c1', c2', c3', c4, c5, c6, cf⟩ := row7 (ROW.out _ B0.out)
  have HNo := Lib.hid hno
  have HNa := Lib.hid hna
  clear hdd hW1 hB0 hr0 hs0 he hn io ia ib hno hna hnb
  go_enter Tryz.func18, Tryz.ntmps18
  repeat (first | go_skip | go_guarded | go_step | go_upon)
  rw [HW1.out]
  by_cases hab : a = b
  · have CAB := ABt hab
    refine (CAB.out _ (LOW.out _ B0.out)).mono ?_
    rintro r w1 ⟨rfl, hb⟩
    simp only []
    have B1 := Lib.hid (Below.trans B0.out (hb.mono B0.out.size))
    clear hb
    obtain ⟨c0, c1', c2', c3', c4, c5, c6, cf⟩ := row7 (ROW.out _ B1.out)
    repeat (first | go_skip | go_guarded | go_step | go_upon)
    go_ret
    have he : agreedL o a b = a := by rw [HI.out, if_pos hab]
    refine ⟨x2, c2, ?_, by rw [he]; exact Z2.out, ?_, LOW.out _ B1.out⟩
    · rw [he, HNa.out]; rfl
    · rw [he]
      exact L2.out.below (LOW.out _ B1.out)
  · have CAB := ABf hab
    cases dd with
    | true =>
      refine (CAB.out _ (LOW.out _ B0.out)).mono ?_
      rintro r w1 ⟨rfl, hb⟩
      simp only []
      have B1 := Lib.hid (Below.trans B0.out (hb.mono B0.out.size))
      clear hb
      obtain ⟨c0, c1', c2', c3', c4, c5, c6, cf⟩ := row7 (ROW.out _ B1.out)
      repeat (first | go_skip | go_guarded | go_step | go_upon)
      refine (AD.out _ (LOW.out _ B1.out)).mono ?_
      rintro r w2 ⟨rfl, hb⟩
      simp only []
      have B2 := Lib.hid (Below.trans B1.out (hb.mono B1.out.size))
      clear hb
      obtain ⟨c0, c1', c2', c3', c4, c5, c6, cf⟩ := row7 (ROW.out _ B2.out)
      have hd : dirV a = true ∧ dirV b = true := by have := HD.out; rw [Bool.and_eq_true] at this; exact this
      have hne : a ≠ [] := fun e => by rw [e] at hd; cases hd.1
      obtain ⟨y, r0, hy⟩ : ∃ y r0, a = y :: r0 := by
        cases a with
        | nil => exact absurd rfl hne
        | cons y r0 => exact ⟨y, r0, rfl⟩
      have hna1 : 1 ≤ na := by rw [← HNa.out, hy]; simp
      obtain ⟨ga, oa, hx2, hgal, hac⟩ := L2.out (by rw [HNa.out]; omega)
      obtain ⟨p0, p1, p2, p3⟩ := hac 0 y (by rw [hy]; rfl)
      rw [Nat.zero_mul, Nat.add_zero] at p0 p1 p2 p3
      have HY : Hid (a.take 1 = [y]) := Lib.hid (by rw [hy]; rfl)
      obtain ⟨Y, hY, _⟩ := txt_of y.path
      obtain ⟨E, hE, _⟩ := txt_of y.data
      rw [hY] at p0
      rw [hE] at p2
      have HCY : Hid (∀ W, Below w.heap.size w W → W.cell? ⟨ga, oa, none⟩ = some (.string Y) ∧ W.cell? ⟨ga, oa + 1, none⟩ = some (.int .i64 y.kind) ∧ W.cell? ⟨ga, oa + 2, none⟩ = some (.string E) ∧ W.cell? ⟨ga, oa + 3, none⟩ = some (.int .i64 y.mode)) := Lib.hid (fun W hW => ⟨(hW.cell (p := ⟨ga, oa, none⟩) hgal).trans p0, (hW.cell (p := ⟨ga, oa + 1, none⟩) hgal).trans p1, (hW.cell (p := ⟨ga, oa + 2, none⟩) hgal).trans p2, (hW.cell (p := ⟨ga, oa + 3, none⟩) hgal).trans p3⟩)
      subst hx2
      clear hy hac p0 p1 p2 p3 hne
      obtain ⟨e0, e1, e2, e3⟩ := HCY.out _ (LOW.out _ B2.out)
      have hnaz : (0 : Int) < na := by omega
      have hlt2 : w.heap.size < w2.heap.size := (Array.getElem?_eq_some_iff.1 (ROW.out _ B2.out)).1
      repeat (first | go_skip | go_guarded | go_step | go_upon)
      have HOY := Lib.hid (own_new w2 w2.heap.size (Nat.le_refl _) y _ _ hY hE)
      obtain ⟨w3, hw3⟩ : ∃ w3, w2.alloc (.cells #[.string Y, .int .i64 y.kind, .string E, .int .i64 y.mode] 40) = w3 := ⟨_, rfl⟩
      have B3 : Hid (Below W1.heap.size W1 w3) := Lib.hid (by rw [← hw3]; exact B2.out.alloc B2.out.size _)
      have B23 : Hid (Below w2.heap.size w2 w3) := Lib.hid (by rw [← hw3]; exact (Below.refl _ _).alloc (Nat.le_refl _) _)
      have hs32 : w2.heap.size ≤ w3.heap.size := B23.out.size
      have hs21 : w.heap.size ≤ w2.heap.size := (LOW.out _ B2.out).size
      rw [hw3] at HOY
      rw [hw3]
      clear hw3 e0 e1 e2 e3
      obtain ⟨c0, c1', c2', c3', c4, c5, c6, cf⟩ := row7 (ROW.out _ B3.out)
      have HNd := Lib.hid (HN.out hd)
      obtain ⟨F, hF⟩ : ∃ F : List UInt8 → List Nd, (fun k => agreedL (subL o k) (subL a k) (subL b k)) = F := ⟨_, rfl⟩
      have HF : Hid (∀ k, agreedL (subL o k) (subL a k) (subL b k) = F k) := Lib.hid (fun k => by rw [← hF])
      have HR : Hid (agreedL o a b = a.take 1 ++ (namesK o a b).flatMap F) := Lib.hid (by rw [HI.out, if_neg hab, if_pos hd, ← hF])
      have HB3 : Hid ((agreedL o a b).length ≤ 3003) := Lib.hid (by have := HL.out; have := hIO.out; have := hIA.out; have := hIB.out; omega)
      have CN := Lib.hid (AS.out.names _ (LOW.out _ B3.out))
      obtain ⟨ns, hns⟩ : ∃ ns, namesK o a b = ns := ⟨_, rfl⟩
      have HNS := Lib.hid hns
      rw [hns] at CN HR
      obtain ⟨n, hn⟩ : ∃ n, ns.length = n := ⟨_, rfl⟩
      have HNn := Lib.hid hn
      rw [hn] at CN
      clear hF hns hn
      refine CN.out.mono ?_
      rintro r w4 ⟨u, rfl, ho, hb⟩
      simp only []
      have HU := Lib.hid (owns_base ho w2.heap.size hs32)
      have B4 := Lib.hid (Below.trans B3.out (hb.mono B3.out.size))
      have B24 := Lib.hid (Below.trans B23.out (hb.mono hs32))
      have HY4 := Lib.hid (owns_below HOY.out hb)
      clear hb
      obtain ⟨ua, uc, hu, hul⟩ := owns_view ho
      subst hu
      clear ho hul
      have hnl : n ≤ maxLen := owns_len HU.out
      unfold maxLen at hnl
      obtain ⟨c0, c1', c2', c3', c4, c5, c6, cf⟩ := row7 (ROW.out _ B4.out)
      repeat (first | go_skip | go_guarded | go_step | go_upon)
      have hs41 := (LOW.out _ B4.out).size
      go_loopw [3, 26] (fun s3 s26 wr => ∃ j : Nat, s26 = .int .i64 j ∧ j ≤ n ∧ wr.ownsRow w2.heap.size 40 4 s3 (y :: (ns.take j).flatMap F).length (nodesC (y :: (ns.take j).flatMap F)) ∧ wr.ownsRow w2.heap.size 9 1 (.slice ua n uc) n (ns.map encStr) ∧ Below w2.heap.size w2 wr) (fun _ s26 _ => n - (Go.RowKit.intOf s26).toNat)
      case atStart => exact ⟨0, rfl, Nat.zero_le _, by have := HY4.out; simpa [nodesC] using this, HU.out, B24.out⟩
      case round =>
        obtain ⟨j, rfl, hj, ho, hnm, hb⟩ := hrel
        have HNm := Lib.hid hnm
        have HO := Lib.hid ho
        have HB := Lib.hid hb
        have hbs := hb.size
        have BW := Lib.hid (Below.trans B2.out (hb.mono B2.out.size))
        clear ho hb hnm
        by_cases hlt : j < n
        · have hlz : (j : Int) < n := by omega
          obtain ⟨k, hk⟩ : ∃ k, ns[j]? = some k := ⟨ns[j]'(by rw [HNn.out]; exact hlt), List.getElem?_eq_getElem _⟩
          obtain ⟨ua2, uc2, hu2, hul⟩ := owns_view HNm.out
          injection hu2 with hu2a _ hu2c
          subst hu2a hu2c
          obtain ⟨g, hg, hgl, hgb, hgc⟩ := hul (by omega)
          subst hg
          have ck := hgc j (by omega)
          rw [List.getElem?_map, hk, Option.map_some] at ck
          obtain ⟨K, hK⟩ : ∃ K, encStr k = .string K := ⟨_, rfl⟩
          rw [hK] at ck
          have hkm : k ∈ namesK o a b := by rw [HNS.out]; exact List.mem_of_getElem? hk
          obtain ⟨hsub, hcalls⟩ := HNd.out k hkm
          have HSub := Lib.hid hsub
          have HCalls := Lib.hid hcalls
          have CB := below_any p k o a b b1 b2 b3 _ _ _ wr (HE.out.below (LOW.out _ BW.out)) (HT.out.below (LOW.out _ BW.out)) hp hsub.len hsub.o hsub.a hsub.b
          rw [HV.out, show txt k = .string K from hK] at CB
          have CBH := Lib.hid CB
          have HAcc : Hid ((ns.take (j + 1)).flatMap F = (ns.take j).flatMap F ++ F k) := Lib.hid (by rw [List.take_add_one, hk, Option.toList_some, List.flatMap_append]; simp)
          have hlen : ((ns.take (j + 1)).flatMap F).length ≤ 3003 := by
            have h1 := HB3.out
            rw [HR.out] at h1
            have h2 : ns.flatMap F = (ns.take (j + 1)).flatMap F ++ (ns.drop (j + 1)).flatMap F := by rw [← List.flatMap_append, List.take_append_drop]
            rw [h2, List.length_append, List.length_append] at h1
            omega
          rw [HAcc.out, List.length_append] at hlen
          have HLen := Lib.hid hlen
          clear hlen CB hsub hcalls hgc hK hkm hul
          obtain ⟨d0, d1, d2, d3, d4, d5, d6, df⟩ := row7 (ROW.out _ BW.out)
          repeat (first | go_skip | go_guarded | go_step | go_upon)
          refine CBH.out.mono ?_
          rintro r w5 ⟨q1, q2, q3, uo, va, vb, rfl, ht, hb⟩
          simp only []
          have B5 := Lib.hid hb
          have CI := Lib.hid (HCalls.out q1 q2 q3 uo va vb w5 ((HE.out.below (LOW.out _ BW.out)).below hb) ht)
          clear hb ht
          repeat (first | go_skip | go_guarded | go_step | go_upon)
          refine CI.out.mono ?_
          rintro r w6 ⟨ao6, c6', rfl, hz6, hl6, hb6⟩
          simp only []
          have B6 := Lib.hid (Below.trans B5.out (hb6.mono B5.out.size))
          have HL6 := Lib.hid hl6
          have HZ6 := Lib.hid hz6
          have HNm6 := Lib.hid (owns_below HNm.out B6.out)
          have HO5 := Lib.hid (owns_below HO.out B6.out)
          have hs6 := B6.out.size
          rw [HF.out k] at HL6
          rw [HF.out k]
          clear hl6 hz6 hb6
          repeat (first
            | (at_builtin; refine append_lay rfl _ _ rfl w2.heap.size i0 hi hz0 hz1 hz2 _ _ _ rfl HO5.out ao6 c6' (F k) rfl HZ6.out.1 HL6.out (by have := HLen.out; simp only [List.length_cons]; unfold maxLen; omega) (by have := HLen.out; simp only [List.length_cons]; omega) (by omega) ?_; intro v' w7 ho7 hg7; have HO7 := Lib.hid ho7; have HG7 := Lib.hid hg7; clear ho7 hg7)
            | go_skip | go_guarded | go_step | go_upon)
          have b7 := (Below.trans HB.out (B6.out.mono hbs)).grown HG7.out (by omega) (fun i hi => (HO5.out.lt i hi).1)
          have n7 := owns_others HNm6.out (by decide) (others_grown HO5.out HG7.out)
          refine ⟨⟨j + 1, by go_num, by omega, ?_, n7, b7⟩, by simp [Go.RowKit.intOf]; omega⟩
          rw [HAcc.out, show y :: ((ns.take j).flatMap F ++ F k) = (y :: (ns.take j).flatMap F) ++ F k from rfl, List.length_append, nodesC_app]
          exact HO7.out
        · have hlz : ¬ (j : Int) < n := by omega
          have hjn : j = n := by omega
          have HEq : Hid (y :: (ns.take j).flatMap F = agreedL o a b) := Lib.hid (by rw [hjn, ← HNn.out, List.take_length, HR.out, HY.out]; rfl)
          clear hlt hjn
          repeat (first | go_skip | go_guarded | go_step | go_upon)
          go_ret
          obtain ⟨r1, r2, r3, r4⟩ := lay_own HO.out
          refine ⟨r1, r2, ?_, ⟨fun e => ?_, ?_⟩, ?_, LOW.out _ BW.out⟩
          · rw [← HEq.out, ← r3]; rfl
          · subst e
            have := r4 (by simp)
            obtain ⟨_, _, e2, _⟩ := this
            cases e2
          · rw [← HEq.out]
            rcases HO.out.2 with ⟨e1, e2⟩ | ⟨g, cap, cur, e1, _, _, h3, _⟩
            · simp at e2
            · have e4 := r3.symm.trans e1
              injection e4 with _ _ e5
              omega
          · rw [← HEq.out]; exact r4
    | false =>
      have hd : ¬ (dirV a = true ∧ dirV b = true) := fun e => by have := HD.out; rw [e.1, e.2] at this; cases this
      refine (CAB.out _ (LOW.out _ B0.out)).mono ?_
      rintro r w1 ⟨rfl, hb⟩
      simp only []
      have B1 := Lib.hid (Below.trans B0.out (hb.mono B0.out.size))
      clear hb
      obtain ⟨c0, c1', c2', c3', c4, c5, c6, cf⟩ := row7 (ROW.out _ B1.out)
      repeat (first | go_skip | go_guarded | go_step | go_upon)
      refine (AD.out _ (LOW.out _ B1.out)).mono ?_
      rintro r w2 ⟨rfl, hb⟩
      simp only []
      have B2 := Lib.hid (Below.trans B1.out (hb.mono B1.out.size))
      clear hb
      obtain ⟨c0, c1', c2', c3', c4, c5, c6, cf⟩ := row7 (ROW.out _ B2.out)
      repeat (first | go_skip | go_guarded | go_step | go_upon)
      go_ret
      have he : agreedL o a b = o := by rw [HI.out, if_neg hab, if_neg hd]
      refine ⟨x1, c1, ?_, by rw [he]; exact Z1.out, ?_, LOW.out _ B2.out⟩
      · rw [he, HNo.out]; rfl
      · rw [he]
        exact L1.out.below (LOW.out _ B2.out)
theorem agreed_any {xo ta tb : List Nd} (ho : Tree xo) (ha : Tree ta) (hb : Tree tb) : ∀ (N : Nat) (p : List UInt8), (p = [] ∨ pathL p = true) → (valP ta p).length < N → ∀ (b1 b2 b3 : Nat) (vo va vb : Value) (w : World), NF.Env w → TrAt w p (valP xo p) (valP ta p) (valP tb p) b1 b2 b3 vo va vb →
    Calls Tryz.prog 18 #[trV p b1 b2 b3 vo va vb] w (AgreePost (agreedL (valP xo p) (valP ta p) (valP tb p)) w)
  | 0, _, _, h, _, _, _, _, _, _, _, _, _ => absurd h (Nat.not_lt_zero _)
  | N + 1, p, hp, hN, b1, b2, b3, vo, va, vb, w, he, h => by
    refine agreed_walk p _ _ _ b1 b2 b3 vo va vb w he h (val_len ho p) (val_len ha p) (val_len hb p) ?_ (fun hd k hk => ?_)
    · rcases hp with rfl | hp
      · simp
      · exact small_path hp
    · obtain ⟨h1, eo, ea, eb, hs⟩ := name_ok ho ha hb hp hk
      refine ⟨hs, fun c1 c2 c3 uo ua ub W hE hT => ?_⟩
      have hne : valP ta p ≠ [] := fun e => by rw [e] at hd; cases hd.1
      have hlt := sub_len (valP ta p) k hne
      rw [eo, ea, eb] at hT ⊢
      rw [ea] at hlt
      exact agreed_any ho ha hb N (belowP p k) (.inr h1) (by omega) c1 c2 c3 uo ua ub W hE hT
end RC
end Go.Proofs.YtmpmmebmhffaeaaGreatDoor
end
