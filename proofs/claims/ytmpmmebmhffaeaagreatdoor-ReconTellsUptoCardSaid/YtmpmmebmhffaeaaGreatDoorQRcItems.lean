/- Layer 12: the contract of items. -/
import Derived.Test.YtmpmmebmhffaeaaGreatDoorQRcOrd
import Derived.Test.YtmpmmebmhffaeaaGreatDoorQRcLen
import Derived.Test.YtmpmmebmhffaeaaGreatDoorQArSame
set_option linter.all false
set_option maxRecDepth 100000
set_option maxHeartbeats 25600000
namespace Go.Proofs.YtmpmmebmhffaeaaGreatDoor
open Go.RowKit Go.Lib Go.Maps Go.BigFrame Go.Sort
namespace RC
open OM TP TM TR TG

theorem infoIt : (Tryz.prog.info? 43).map (fun i => (i.zero, i.size, i.bytes)) = some (some (.agg #[.string ⟨#[]⟩, .int .i64 0]), 2, 24) := by kernel_rfl
theorem append_rows {P : Program} {w : World} {ops : Array Oper} {rest : List Oper} {o : Oper} {a : Act} {Q : Exit → Act → World → Prop} (hgd : o.guard = none) (s x : Operand) (t : TypeId)
    (ho : o.op = .call { callee := .builtin .append, args := #[s, x], argTypes := #[t, t] })
    (base : Nat) (e : TypeId) (i : TypeInfo) (z : Value) (size bytes : Nat) (ht : P.underlying t = some (.slice e)) (hi : P.info? e = some i) (hz : i.zero = some z)
    (hsize : i.size = size) (hby : i.bytes = bytes) (hzs : z.cells.size = size) (hsz : 0 < size)
    (v : Value) (n : Nat) (xs : List Value) (hs : a.eval s = v) (hown : w.ownsRow base e size v n xs)
    (u : Value) (m base2 : Nat) (ys : List Value) (hx : a.eval x = u) (hu : w.ownsRow base2 e size u m ys) (h1 : ∀ y ∈ ys, y.oneCell' = true)
    (h63 : n + m ≤ maxLen) (hbytes : (n + m) * bytes ≤ 140737488355328) (hbase : base ≤ w.heap.size)
    (h : ∀ v' w', w'.ownsRow base e size v' (n + m) (xs ++ ys) → w.grownBy w' v.ownBlock → wpList P ops Q rest (a.put o.dst v') w') :
    wpList P ops Q (o :: rest) a w := by
  rcases hu.2 with ⟨rfl, rfl⟩ | ⟨g, cap, cur, rfl, hb, hgg, _⟩
  · have hy : ys = [] := List.eq_nil_of_length_eq_zero (by simpa using hu.1)
    subst hy
    refine wpList_append_own_none hgd s x t ho base e i size ht hi v n xs hs hown hx (h v w (by simpa using hown) ⟨rfl, rfl, rfl, Nat.le_refl _, fun _ _ _ => rfl⟩)
  · refine wpList_append_own _ hgd s x t ho base e i z size bytes ht hi hz hsize hby hzs hsz v n xs hs hown ⟨g, 0, none⟩ m cap ys hx hu.1 (fun j y hj => ?_) h1 h63 hbytes hbase (fun v' w' a1 a2 _ => h v' w' a1 a2)
    have hjl := (List.getElem?_eq_some_iff.1 hj).1
    have e1 : (⟨g, 0, none⟩ : Addr).add j = ⟨g, j, none⟩ := by simp [Addr.add]; omega
    rw [e1, hu.cellAt j (by rw [← hu.1]; exact hjl)]
    exact hj
def itC (l : List It) : List Value := l.flatMap fun i => [txt i.1, .int .i64 i.2]
theorem itC_len (l : List It) : (itC l).length = l.length * 2 := by
  induction l with
  | nil => rfl
  | cons x l ih =>
    show ([txt x.1, .int .i64 x.2] ++ itC l).length = (l.length + 1) * 2
    rw [List.length_append, ih]
    show 2 + _ = _
    omega
theorem itC_app (a b : List It) : itC (a ++ b) = itC a ++ itC b := by
  unfold itC
  rw [List.flatMap_append]
theorem itC_one (l : List It) : ∀ u ∈ itC l, u.oneCell' = true := by
  intro u hu
  obtain ⟨x, _, hx⟩ := List.mem_flatMap.1 hu
  simp only [List.mem_cons, List.not_mem_nil, or_false] at hx
  rcases hx with rfl | rfl <;> rfl
def ItemsPost (l : List It) (w : World) (r : Ending) (w' : World) : Prop := ∃ u, r = .returned u ∧ w'.ownsRow w.heap.size 43 2 u l.length (itC l) ∧ Below w.heap.size w w'
/-- What is below a name is right. -/
structure SubOk (o a b : List Nd) (k : List UInt8) : Prop where
  len : k.length ≤ 1048576
  o : InV (subL o k)
  a : InV (subL a k)
  b : InV (subL b k)
/-- What calls of items answer at each name below. -/
def ItemsBelow (p : List UInt8) (o a b : List Nd) : Prop := ∀ k ∈ namesK o a b, SubOk o a b k ∧ ∀ c1 c2 c3 uo ua ub W, NF.Env W → TrAt W (belowP p k) (subL o k) (subL a k) (subL b k) c1 c2 c3 uo ua ub → Calls Tryz.prog 15 #[trV (belowP p k) c1 c2 c3 uo ua ub] W (ItemsPost (itemsL (belowP p k) (subL o k) (subL a k) (subL b k)) W)
/-- What calls upon three values answer. -/
structure Asks (W0 : World) (p : List UInt8) (o a b : List Nd) (b1 b2 b3 : Nat) (vo va vb : Value) : Prop where
  ab : ∀ W, Below W0.heap.size W0 W → Calls Tryz.prog 23 #[va, vb] W fun r w' => r = .returned (.bool (decide (a = b))) ∧ Below W.heap.size W w'
  oa : ∀ W, Below W0.heap.size W0 W → Calls Tryz.prog 23 #[vo, va] W fun r w' => r = .returned (.bool (decide (o = a))) ∧ Below W.heap.size W w'
  ob : ∀ W, Below W0.heap.size W0 W → Calls Tryz.prog 23 #[vo, vb] W fun r w' => r = .returned (.bool (decide (o = b))) ∧ Below W.heap.size W w'
  dirs : ∀ W, Below W0.heap.size W0 W → Calls Tryz.prog 25 #[trV p b1 b2 b3 vo va vb] W fun r w' => r = .returned (.bool (dirV a && dirV b)) ∧ Below W.heap.size W w'
  item : ∀ (t : Int) W, Below W0.heap.size W0 W → Calls Tryz.prog 24 #[trV p b1 b2 b3 vo va vb, .int .i64 t] W (ItemsPost [(p, t)] W)
  names : ∀ W, Below W0.heap.size W0 W → Calls Tryz.prog 26 #[.agg #[.map (some b1), .map (some b2), .map (some b3)]] W fun r w' => ∃ u, r = .returned u ∧ w'.ownsRow W.heap.size 9 1 u (namesK o a b).length ((namesK o a b).map encStr) ∧ Below W.heap.size W w'
theorem asks {W0 : World} {p : List UInt8} {o a b : List Nd} {b1 b2 b3 : Nat} {vo va vb : Value} (h : TrAt W0 p o a b b1 b2 b3 vo va vb) (lo : o.length ≤ maxLen) (la : a.length ≤ maxLen) (lb : b.length ≤ maxLen) : Asks W0 p o a b b1 b2 b3 vo va vb := by
  have h0 := h
  obtain ⟨g1, g2, g3, ⟨x1, c1, rfl, l1, -⟩, ⟨x2, c2, rfl, l2, -⟩, ⟨x3, c3, rfl, l3, -⟩⟩ := h
  exact {
    ab := fun W hW => same_any x2 x3 c2 c3 a b W (l2.below hW) (l3.below hW) la lb
    oa := fun W hW => same_any x1 x2 c1 c2 o a W (l1.below hW) (l2.below hW) lo la
    ob := fun W hW => same_any x1 x3 c1 c3 o b W (l1.below hW) (l3.below hW) lo lb
    dirs := fun W hW => bothDirs_any p o a b b1 b2 b3 _ _ _ W (h0.below hW) la lb
    item := fun t W _ => item_any p b1 b2 b3 _ _ _ t W ⟨_, _, _, rfl⟩ ⟨_, _, _, rfl⟩ ⟨_, _, _, rfl⟩
    names := fun W hW => ordered_any b1 b2 b3 o a b W (Mp.below g1 hW) (Mp.below g2 hW) (Mp.below g3 hW) }
set_option maxRecDepth 100000 in
set_option maxHeartbeats 12800000 in
theorem items_walk (p : List UInt8) (o a b : List Nd) (b1 b2 b3 : Nat) (vo va vb : Value) (w : World) (he : NF.Env w) (h : TrAt w p o a b b1 b2 b3 vo va vb) (io : o.length ≤ 1001) (ia : a.length ≤ 1001) (ib : b.length ≤ 1001) (hp : p.length ≤ 1048576) (hn : dirV a = true ∧ dirV b = true → ItemsBelow p o a b) :
    Calls Tryz.prog 15 #[trV p b1 b2 b3 vo va vb] w (ItemsPost (itemsL p o a b) w) := by
  obtain ⟨i0, hi, hz0, hz1, hz2⟩ : ∃ i0, Tryz.prog.info? 43 = some i0 ∧ i0.zero = some (.agg #[.string ⟨#[]⟩, .int .i64 0]) ∧ i0.size = 2 ∧ i0.bytes = 24 := by
    have := infoIt
    cases e : Tryz.prog.info? 43 with
    | none => rw [e] at this; cases this
    | some i0 =>
      rw [e] at this
      simp only [Option.map_some, Option.some.injEq, Prod.mk.injEq] at this
      exact ⟨i0, rfl, this.1, this.2.1, this.2.2⟩
  have AS := Lib.hid (asks h (by unfold maxLen; omega) (by unfold maxLen; omega) (by unfold maxLen; omega))
  obtain ⟨S, hS, hSd⟩ := txt_of p
  have hv : trV p b1 b2 b3 vo va vb = .agg #[.map (some b1), .map (some b2), .map (some b3), .string S, vo, va, vb] := by unfold trV; rw [hS]
  have HT := Lib.hid h
  obtain ⟨-, -, -, ⟨x1, c1, rfl, -⟩, ⟨x2, c2, rfl, -⟩, ⟨x3, c3, rfl, -⟩⟩ := h
  have HE := Lib.hid he
  have HI := Lib.hid (items_step p o a b)
  have HL := Lib.hid (items_len p o a b)
  have HN := Lib.hid hn
  obtain ⟨no, hno⟩ : ∃ n, o.length = n := ⟨_, rfl⟩
  obtain ⟨na, hna⟩ : ∃ n, a.length = n := ⟨_, rfl⟩
  obtain ⟨nb, hnb⟩ : ∃ n, b.length = n := ⟨_, rfl⟩
  rw [hno, hna, hnb] at AS HT hv
  rw [hno, hna, hnb]
  have HV := Lib.hid hv
  have AI := Lib.hid AS.out.item
  have AD := Lib.hid AS.out.dirs
  have HV := Lib.hid hv
  rw [hv] at AD AI
  rw [hv]
  clear hv
  have hB0 : Below w.heap.size w (w.alloc (.cells #[.map (some b1), .map (some b2), .map (some b3), .string S, .slice x1 no c1, .slice x2 na c2, .slice x3 nb c3] 49)) := (Below.refl _ _).alloc (Nat.le_refl _) _
  have hr0 := heap_alloc_new w (.cells #[.map (some b1), .map (some b2), .map (some b3), .string S, .slice x1 no c1, .slice x2 na c2, .slice x3 nb c3] 49)
  have hs0 : (w.alloc (.cells #[.map (some b1), .map (some b2), .map (some b3), .string S, .slice x1 no c1, .slice x2 na c2, .slice x3 nb c3] 49)).heap.size = w.heap.size + 1 := by simp
  obtain ⟨W1, hW1⟩ : ∃ W1, w.alloc (.cells #[.map (some b1), .map (some b2), .map (some b3), .string S, .slice x1 no c1, .slice x2 na c2, .slice x3 nb c3] 49) = W1 := ⟨_, rfl⟩
  rw [hW1] at hB0 hr0 hs0
  have LOW : Hid (∀ W, Below W1.heap.size W1 W → Below w.heap.size w W) := Lib.hid (fun W hW => Below.trans hB0 (hW.mono hB0.size))
  have ROW : Hid (∀ W, Below W1.heap.size W1 W → W.heap[w.heap.size]? = some (.cells #[.map (some b1), .map (some b2), .map (some b3), .string S, .slice x1 no c1, .slice x2 na c2, .slice x3 nb c3] 49 (0, 0))) := Lib.hid (fun W hW => (hW.block _ (by omega)).trans hr0)
  have HW1 := Lib.hid hW1
  have B0 : Hid (Below W1.heap.size W1 W1) := Lib.hid (Below.refl _ _)
  have ABt : a = b → Hid (∀ W, Below w.heap.size w W → Calls Tryz.prog 23 #[.slice x2 na c2, .slice x3 nb c3] W fun r w' => r = .returned (.bool true) ∧ Below W.heap.size W w') := fun e => Lib.hid (by have := AS.out.ab; rw [decide_eq_true e] at this; exact this)
  have ABf : ¬ a = b → Hid (∀ W, Below w.heap.size w W → Calls Tryz.prog 23 #[.slice x2 na c2, .slice x3 nb c3] W fun r w' => r = .returned (.bool false) ∧ Below W.heap.size W w') := fun e => Lib.hid (by have := AS.out.ab; rw [decide_eq_false e] at this; exact this)
  have OAt : o = a → Hid (∀ W, Below w.heap.size w W → Calls Tryz.prog 23 #[.slice x1 no c1, .slice x2 na c2] W fun r w' => r = .returned (.bool true) ∧ Below W.heap.size W w') := fun e => Lib.hid (by have := AS.out.oa; rw [decide_eq_true e] at this; exact this)
  have OAf : ¬ o = a → Hid (∀ W, Below w.heap.size w W → Calls Tryz.prog 23 #[.slice x1 no c1, .slice x2 na c2] W fun r w' => r = .returned (.bool false) ∧ Below W.heap.size W w') := fun e => Lib.hid (by have := AS.out.oa; rw [decide_eq_false e] at this; exact this)
  have OBt : o = b → Hid (∀ W, Below w.heap.size w W → Calls Tryz.prog 23 #[.slice x1 no c1, .slice x3 nb c3] W fun r w' => r = .returned (.bool true) ∧ Below W.heap.size W w') := fun e => Lib.hid (by have := AS.out.ob; rw [decide_eq_true e] at this; exact this)
  have OBf : ¬ o = b → Hid (∀ W, Below w.heap.size w W → Calls Tryz.prog 23 #[.slice x1 no c1, .slice x3 nb c3] W fun r w' => r = .returned (.bool false) ∧ Below W.heap.size W w') := fun e => Lib.hid (by have := AS.out.ob; rw [decide_eq_false e] at this; exact this)
  obtain ⟨dd, hdd⟩ : ∃ dd, (dirV a && dirV b) = dd := ⟨_, rfl⟩
  rw [hdd] at AD
  have HD : Hid ((dirV a && dirV b) = dd) := Lib.hid hdd
  have hIO := Lib.hid io
  have hIA := Lib.hid ia
  have hIB := Lib.hid ib
  obtain ⟨c0, c1', c2', c3', c4, c5, c6, cf⟩ := row7 (ROW.out _ B0.out)
  clear hdd hW1 hB0 hr0 hs0 he hn io ia ib hno hna hnb
  go_enter Tryz.func15, Tryz.ntmps15
  repeat (first | go_skip | go_guarded | go_step | go_upon)
  rw [HW1.out]
  by_cases hab : a = b
  · have CAB := ABt hab
    by_cases hoa : o = a
    · have COA := OAt hoa
      refine (CAB.out _ (LOW.out _ B0.out)).mono ?_
      rintro r w1 ⟨rfl, hb⟩
      simp only []
      have B1 := Lib.hid (Below.trans B0.out (hb.mono B0.out.size))
      clear hb
      obtain ⟨c0, c1', c2', c3', c4, c5, c6, cf⟩ := row7 (ROW.out _ B1.out)
      repeat (first | go_skip | go_guarded | go_step | go_upon)
      refine (COA.out _ (LOW.out _ B1.out)).mono ?_
      rintro r w2 ⟨rfl, hb⟩
      simp only []
      have B2 := Lib.hid (Below.trans B1.out (hb.mono B1.out.size))
      clear hb
      obtain ⟨c0, c1', c2', c3', c4, c5, c6, cf⟩ := row7 (ROW.out _ B2.out)
      repeat (first | go_skip | go_guarded | go_step | go_upon)
      go_ret
      refine ⟨_, rfl, ?_, LOW.out _ B2.out⟩
      rw [HI.out, if_pos hab, if_pos hoa]
      exact World.ownsRow_nil _ _ _ _
    · have COA := OAf hoa
      refine (CAB.out _ (LOW.out _ B0.out)).mono ?_
      rintro r w1 ⟨rfl, hb⟩
      simp only []
      have B1 := Lib.hid (Below.trans B0.out (hb.mono B0.out.size))
      clear hb
      obtain ⟨c0, c1', c2', c3', c4, c5, c6, cf⟩ := row7 (ROW.out _ B1.out)
      repeat (first | go_skip | go_guarded | go_step | go_upon)
      refine (COA.out _ (LOW.out _ B1.out)).mono ?_
      rintro r w2 ⟨rfl, hb⟩
      simp only []
      have B2 := Lib.hid (Below.trans B1.out (hb.mono B1.out.size))
      clear hb
      obtain ⟨c0, c1', c2', c3', c4, c5, c6, cf⟩ := row7 (ROW.out _ B2.out)
      repeat (first | go_skip | go_guarded | go_step | go_upon)
      refine (CAB.out _ (LOW.out _ B2.out)).mono ?_
      rintro r w3 ⟨rfl, hb⟩
      simp only []
      have B3 := Lib.hid (Below.trans B2.out (hb.mono B2.out.size))
      clear hb
      obtain ⟨c0, c1', c2', c3', c4, c5, c6, cf⟩ := row7 (ROW.out _ B3.out)
      repeat (first | go_skip | go_guarded | go_step | go_upon)
      refine (AI.out 1 _ (LOW.out _ B3.out)).mono ?_
      rintro r w4 ⟨u, rfl, ho, hb⟩
      simp only []
      have HO := Lib.hid ho
      have HB := Lib.hid (Below.trans (LOW.out _ B3.out) (hb.mono (LOW.out _ B3.out).size))
      have hsz := (LOW.out _ B3.out).size
      clear ho hb
      repeat (first | go_skip | go_guarded | go_step | go_upon)
      go_ret
      refine ⟨_, rfl, ?_, HB.out⟩
      rw [HI.out, if_pos hab, if_neg hoa]
      exact owns_base HO.out _ hsz
  · have CAB := ABf hab
    cases dd with
    | true =>
      refine (CAB.out _ (LOW.out _ B0.out)).mono ?_
      rintro r w1 ⟨rfl, hb⟩
      simp only []
      have B1 := Lib.hid (Below.trans B0.out (hb.mono B0.out.size))
      clear hb
      obtain ⟨c0, c1', c2', c3', c4, c5, c6, cf⟩ := row7 (ROW.out _ B1.out)
      repeat (first | go_skip | go_guarded | go_step | go_upon)
      refine (CAB.out _ (LOW.out _ B1.out)).mono ?_
      rintro r w2 ⟨rfl, hb⟩
      simp only []
      have B2 := Lib.hid (Below.trans B1.out (hb.mono B1.out.size))
      clear hb
      obtain ⟨c0, c1', c2', c3', c4, c5, c6, cf⟩ := row7 (ROW.out _ B2.out)
      repeat (first | go_skip | go_guarded | go_step | go_upon)
      refine (AD.out _ (LOW.out _ B2.out)).mono ?_
      rintro r w3 ⟨rfl, hb⟩
      simp only []
      have B3 := Lib.hid (Below.trans B2.out (hb.mono B2.out.size))
      clear hb
      obtain ⟨c0, c1', c2', c3', c4, c5, c6, cf⟩ := row7 (ROW.out _ B3.out)
      repeat (first | go_skip | go_guarded | go_step | go_upon)
      have hd : dirV a = true ∧ dirV b = true := by have := HD.out; rw [Bool.and_eq_true] at this; exact this
      have HNd := Lib.hid (HN.out hd)
      obtain ⟨F, hF⟩ : ∃ F : List UInt8 → List It, (fun k => itemsL (belowP p k) (subL o k) (subL a k) (subL b k)) = F := ⟨_, rfl⟩
      have HF : Hid (∀ k, itemsL (belowP p k) (subL o k) (subL a k) (subL b k) = F k) := Lib.hid (fun k => by rw [← hF])
      have HR : Hid (itemsL p o a b = (namesK o a b).flatMap F) := Lib.hid (by rw [HI.out, if_neg hab, if_pos hd, ← hF])
      have HB3 : Hid ((itemsL p o a b).length ≤ 3003) := Lib.hid (by have := HL.out; have := hIO.out; have := hIA.out; have := hIB.out; omega)
      have CN := Lib.hid (AS.out.names _ (LOW.out _ B3.out))
      obtain ⟨ns, hns⟩ : ∃ ns, namesK o a b = ns := ⟨_, rfl⟩
      have HNS := Lib.hid hns
      rw [hns] at CN HR
      obtain ⟨n, hn⟩ : ∃ n, ns.length = n := ⟨_, rfl⟩
      have HNn := Lib.hid hn
      rw [hn] at CN
      clear hF hns hn
      refine CN.out.mono ?_
      rintro r w4 ⟨u, rfl, ho, hb⟩
      simp only []
      have HU := Lib.hid ho
      have B4 := Lib.hid (Below.trans B3.out (hb.mono B3.out.size))
      clear hb
      obtain ⟨ua, uc, hu, hul⟩ := owns_view ho
      subst hu
      have HUL := Lib.hid hul
      clear ho hul
      have hnl : n ≤ maxLen := owns_len HU.out
      unfold maxLen at hnl
      obtain ⟨c0, c1', c2', c3', c4, c5, c6, cf⟩ := row7 (ROW.out _ B4.out)
      repeat (first | go_skip | go_guarded | go_step | go_upon)
      have hs41 := (LOW.out _ B4.out).size
      go_loopw [3, 34] (fun s3 s34 wr => ∃ j : Nat, s34 = .int .i64 j ∧ j ≤ n ∧ wr.ownsRow w4.heap.size 43 2 s3 ((ns.take j).flatMap F).length (itC ((ns.take j).flatMap F)) ∧ Below w4.heap.size w4 wr) (fun _ s34 _ => n - (Go.RowKit.intOf s34).toNat)
      case atStart => exact ⟨0, rfl, Nat.zero_le _, World.ownsRow_nil _ _ _ _, Below.refl _ _⟩
      case round =>
        obtain ⟨j, rfl, hj, ho, hb⟩ := hrel
        have HO := Lib.hid ho
        have HB := Lib.hid hb
        have hbs := hb.size
        have BW := Lib.hid (Below.trans B4.out (hb.mono B4.out.size))
        clear ho hb
        by_cases hlt : j < n
        · have hlz : (j : Int) < n := by omega
          obtain ⟨k, hk⟩ : ∃ k, ns[j]? = some k := ⟨ns[j]'(by rw [HNn.out]; exact hlt), List.getElem?_eq_getElem _⟩
          obtain ⟨g, hg, hgl, hgb, hgc⟩ := HUL.out (by omega)
          subst hg
          have ck := (HB.out.cell (p := ⟨g, j, none⟩) hgl).trans (hgc j (by omega))
          rw [List.getElem?_map, hk, Option.map_some] at ck
          obtain ⟨K, hK⟩ : ∃ K, encStr k = .string K := ⟨_, rfl⟩
          rw [hK] at ck
          have hkm : k ∈ namesK o a b := by rw [HNS.out]; exact List.mem_of_getElem? hk
          obtain ⟨hsub, hcalls⟩ := HNd.out k hkm
          have HSub := Lib.hid hsub
          have HCalls := Lib.hid hcalls
          have CB := below_any p k o a b b1 b2 b3 (.slice x1 no c1) (.slice x2 na c2) (.slice x3 nb c3) wr (HE.out.below (LOW.out _ BW.out)) (HT.out.below (LOW.out _ BW.out)) hp hsub.len hsub.o hsub.a hsub.b
          rw [HV.out, show txt k = .string K from hK] at CB
          have CBH := Lib.hid CB
          have HAcc : Hid ((ns.take (j + 1)).flatMap F = (ns.take j).flatMap F ++ F k) := Lib.hid (by rw [List.take_add_one, hk, Option.toList_some, List.flatMap_append]; simp)
          have hlen : ((ns.take (j + 1)).flatMap F).length ≤ 3003 := by
            have h1 := HB3.out
            rw [HR.out] at h1
            have h2 : ns.flatMap F = (ns.take (j + 1)).flatMap F ++ (ns.drop (j + 1)).flatMap F := by rw [← List.flatMap_append, List.take_append_drop]
            rw [h2, List.length_append] at h1
            omega
          rw [HAcc.out, List.length_append] at hlen
          have HLen := Lib.hid hlen
          clear hlen CB hsub hcalls hgc hK hkm
          obtain ⟨d0, d1, d2, d3, d4, d5, d6, df⟩ := row7 (ROW.out _ BW.out)
          repeat (first | go_skip | go_guarded | go_step | go_upon)
          refine CBH.out.mono ?_
          rintro r w5 ⟨q1, q2, q3, uo, va, vb, rfl, ht, hb⟩
          simp only []
          have B5 := Lib.hid hb
          have CI := Lib.hid (HCalls.out q1 q2 q3 uo va vb w5 ((HE.out.below (LOW.out _ BW.out)).below hb) ht)
          clear hb ht
          repeat (first | go_skip | go_guarded | go_step | go_upon)
          refine CI.out.mono ?_
          rintro r w6 ⟨u6, rfl, ho6, hb6⟩
          simp only []
          have B6 := Lib.hid (Below.trans B5.out (hb6.mono B5.out.size))
          have HO6 := Lib.hid ho6
          have HO5 := Lib.hid (owns_below HO.out B6.out)
          have hs6 := B6.out.size
          rw [HF.out k] at HO6
          clear ho6 hb6
          repeat (first
            | (at_builtin; refine append_rows rfl _ _ 27 rfl w4.heap.size 43 i0 (.agg #[.string ⟨#[]⟩, .int .i64 0]) 2 24 Tryz.underlying27 hi hz0 hz1 hz2 rfl (by decide) _ _ _ rfl HO5.out u6 _ _ _ rfl HO6.out (itC_one _) (by have := HLen.out; unfold maxLen; omega) (by have := HLen.out; omega) (by omega) ?_; intro v' w7 ho7 hg7; have HO7 := Lib.hid ho7; have HG7 := Lib.hid hg7; clear ho7 hg7)
            | go_skip | go_guarded | go_step | go_upon)
          have b7 := (Below.trans HB.out (B6.out.mono hbs)).grown HG7.out (by omega) (fun i hi => (HO5.out.lt i hi).1)
          refine ⟨⟨j + 1, by go_num, by omega, ?_, b7⟩, by simp [Go.RowKit.intOf]; omega⟩
          rw [HAcc.out, List.length_append, itC_app]
          exact HO7.out
        · have hlz : ¬ (j : Int) < n := by omega
          have hjn : j = n := by omega
          have HEq : Hid ((ns.take j).flatMap F = itemsL p o a b) := Lib.hid (by rw [hjn, ← HNn.out, List.take_length, HR.out])
          clear hlt hjn
          repeat (first | go_skip | go_guarded | go_step | go_upon)
          go_ret
          refine ⟨_, rfl, ?_, LOW.out _ BW.out⟩
          rw [← HEq.out]
          exact owns_base HO.out _ hs41
    | false =>
      have hd : ¬ (dirV a = true ∧ dirV b = true) := fun e => by have := HD.out; rw [e.1, e.2] at this; cases this
      by_cases hob : o = b
      · have COB := OBt hob
        refine (CAB.out _ (LOW.out _ B0.out)).mono ?_
        rintro r w1 ⟨rfl, hb⟩
        simp only []
        have B1 := Lib.hid (Below.trans B0.out (hb.mono B0.out.size))
        clear hb
        obtain ⟨c0, c1', c2', c3', c4, c5, c6, cf⟩ := row7 (ROW.out _ B1.out)
        repeat (first | go_skip | go_guarded | go_step | go_upon)
        refine (CAB.out _ (LOW.out _ B1.out)).mono ?_
        rintro r w2 ⟨rfl, hb⟩
        simp only []
        have B2 := Lib.hid (Below.trans B1.out (hb.mono B1.out.size))
        clear hb
        obtain ⟨c0, c1', c2', c3', c4, c5, c6, cf⟩ := row7 (ROW.out _ B2.out)
        repeat (first | go_skip | go_guarded | go_step | go_upon)
        refine (AD.out _ (LOW.out _ B2.out)).mono ?_
        rintro r w3 ⟨rfl, hb⟩
        simp only []
        have B3 := Lib.hid (Below.trans B2.out (hb.mono B2.out.size))
        clear hb
        obtain ⟨c0, c1', c2', c3', c4, c5, c6, cf⟩ := row7 (ROW.out _ B3.out)
        repeat (first | go_skip | go_guarded | go_step | go_upon)
        refine (COB.out _ (LOW.out _ B3.out)).mono ?_
        rintro r w4 ⟨rfl, hb⟩
        simp only []
        have B4 := Lib.hid (Below.trans B3.out (hb.mono B3.out.size))
        clear hb
        obtain ⟨c0, c1', c2', c3', c4, c5, c6, cf⟩ := row7 (ROW.out _ B4.out)
        repeat (first | go_skip | go_guarded | go_step | go_upon)
        refine (AI.out 2 _ (LOW.out _ B4.out)).mono ?_
        rintro r w5 ⟨u, rfl, ho, hb⟩
        simp only []
        have HO := Lib.hid ho
        have HB := Lib.hid (Below.trans (LOW.out _ B4.out) (hb.mono (LOW.out _ B4.out).size))
        have hsz := (LOW.out _ B4.out).size
        clear ho hb
        repeat (first | go_skip | go_guarded | go_step | go_upon)
        go_ret
        refine ⟨_, rfl, ?_, HB.out⟩
        rw [HI.out, if_neg hab, if_neg hd, if_pos hob]
        exact owns_base HO.out _ hsz
      · have COB := OBf hob
        by_cases hoa : o = a
        · have COA := OAt hoa
          refine (CAB.out _ (LOW.out _ B0.out)).mono ?_
          rintro r w1 ⟨rfl, hb⟩
          simp only []
          have B1 := Lib.hid (Below.trans B0.out (hb.mono B0.out.size))
          clear hb
          obtain ⟨c0, c1', c2', c3', c4, c5, c6, cf⟩ := row7 (ROW.out _ B1.out)
          repeat (first | go_skip | go_guarded | go_step | go_upon)
          refine (CAB.out _ (LOW.out _ B1.out)).mono ?_
          rintro r w2 ⟨rfl, hb⟩
          simp only []
          have B2 := Lib.hid (Below.trans B1.out (hb.mono B1.out.size))
          clear hb
          obtain ⟨c0, c1', c2', c3', c4, c5, c6, cf⟩ := row7 (ROW.out _ B2.out)
          repeat (first | go_skip | go_guarded | go_step | go_upon)
          refine (AD.out _ (LOW.out _ B2.out)).mono ?_
          rintro r w3 ⟨rfl, hb⟩
          simp only []
          have B3 := Lib.hid (Below.trans B2.out (hb.mono B2.out.size))
          clear hb
          obtain ⟨c0, c1', c2', c3', c4, c5, c6, cf⟩ := row7 (ROW.out _ B3.out)
          repeat (first | go_skip | go_guarded | go_step | go_upon)
          refine (COB.out _ (LOW.out _ B3.out)).mono ?_
          rintro r w4 ⟨rfl, hb⟩
          simp only []
          have B4 := Lib.hid (Below.trans B3.out (hb.mono B3.out.size))
          clear hb
          obtain ⟨c0, c1', c2', c3', c4, c5, c6, cf⟩ := row7 (ROW.out _ B4.out)
          repeat (first | go_skip | go_guarded | go_step | go_upon)
          refine (COA.out _ (LOW.out _ B4.out)).mono ?_
          rintro r w5 ⟨rfl, hb⟩
          simp only []
          have B5 := Lib.hid (Below.trans B4.out (hb.mono B4.out.size))
          clear hb
          obtain ⟨c0, c1', c2', c3', c4, c5, c6, cf⟩ := row7 (ROW.out _ B5.out)
          repeat (first | go_skip | go_guarded | go_step | go_upon)
          refine (AI.out 3 _ (LOW.out _ B5.out)).mono ?_
          rintro r w6 ⟨u, rfl, ho, hb⟩
          simp only []
          have HO := Lib.hid ho
          have HB := Lib.hid (Below.trans (LOW.out _ B5.out) (hb.mono (LOW.out _ B5.out).size))
          have hsz := (LOW.out _ B5.out).size
          clear ho hb
          repeat (first | go_skip | go_guarded | go_step | go_upon)
          go_ret
          refine ⟨_, rfl, ?_, HB.out⟩
          rw [HI.out, if_neg hab, if_neg hd, if_neg hob, if_pos hoa]
          exact owns_base HO.out _ hsz
        · have COA := OAf hoa
          refine (CAB.out _ (LOW.out _ B0.out)).mono ?_
          rintro r w1 ⟨rfl, hb⟩
          simp only []
          have B1 := Lib.hid (Below.trans B0.out (hb.mono B0.out.size))
          clear hb
          obtain ⟨c0, c1', c2', c3', c4, c5, c6, cf⟩ := row7 (ROW.out _ B1.out)
          repeat (first | go_skip | go_guarded | go_step | go_upon)
          refine (CAB.out _ (LOW.out _ B1.out)).mono ?_
          rintro r w2 ⟨rfl, hb⟩
          simp only []
          have B2 := Lib.hid (Below.trans B1.out (hb.mono B1.out.size))
          clear hb
          obtain ⟨c0, c1', c2', c3', c4, c5, c6, cf⟩ := row7 (ROW.out _ B2.out)
          repeat (first | go_skip | go_guarded | go_step | go_upon)
          refine (AD.out _ (LOW.out _ B2.out)).mono ?_
          rintro r w3 ⟨rfl, hb⟩
          simp only []
          have B3 := Lib.hid (Below.trans B2.out (hb.mono B2.out.size))
          clear hb
          obtain ⟨c0, c1', c2', c3', c4, c5, c6, cf⟩ := row7 (ROW.out _ B3.out)
          repeat (first | go_skip | go_guarded | go_step | go_upon)
          refine (COB.out _ (LOW.out _ B3.out)).mono ?_
          rintro r w4 ⟨rfl, hb⟩
          simp only []
          have B4 := Lib.hid (Below.trans B3.out (hb.mono B3.out.size))
          clear hb
          obtain ⟨c0, c1', c2', c3', c4, c5, c6, cf⟩ := row7 (ROW.out _ B4.out)
          repeat (first | go_skip | go_guarded | go_step | go_upon)
          refine (COA.out _ (LOW.out _ B4.out)).mono ?_
          rintro r w5 ⟨rfl, hb⟩
          simp only []
          have B5 := Lib.hid (Below.trans B4.out (hb.mono B4.out.size))
          clear hb
          obtain ⟨c0, c1', c2', c3', c4, c5, c6, cf⟩ := row7 (ROW.out _ B5.out)
          repeat (first | go_skip | go_guarded | go_step | go_upon)
          refine (AI.out 4 _ (LOW.out _ B5.out)).mono ?_
          rintro r w6 ⟨u, rfl, ho, hb⟩
          simp only []
          have HO := Lib.hid ho
          have HB := Lib.hid (Below.trans (LOW.out _ B5.out) (hb.mono (LOW.out _ B5.out).size))
          have hsz := (LOW.out _ B5.out).size
          clear ho hb
          repeat (first | go_skip | go_guarded | go_step | go_upon)
          go_ret
          refine ⟨_, rfl, ?_, HB.out⟩
          rw [HI.out, if_neg hab, if_neg hd, if_neg hob, if_neg hoa]
          exact owns_base HO.out _ hsz
end RC
end Go.Proofs.YtmpmmebmhffaeaaGreatDoor
