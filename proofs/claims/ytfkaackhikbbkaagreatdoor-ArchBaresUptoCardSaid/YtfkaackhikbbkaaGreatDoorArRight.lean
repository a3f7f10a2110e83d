/- Layer 9: the contracts of the program's isFingerprint, hasData, belowZero, ContainsFunc over both, IsBare. -/
import Derived.Test.YtfkaackhikbbkaaGreatDoorMg1
import Derived.Test.YtfkaackhikbbkaaGreatDoorArWide
import Derived.Shelf.Strings.SlTrimAscii
import Derived.Lib.MinMax
namespace Go.Proofs.YtfkaackhikbbkaaGreatDoor
open Go.RowKit Go.Lib Go.BigFrame
namespace AR
open OM TP TM TG TW AP

def digs : List UInt8 := [48, 49, 50, 51, 52, 53, 54, 55, 56, 57, 97, 98, 99, 100, 101, 102]
theorem isDig_all : ∀ n, n < 256 → digs.contains (UInt8.ofNat n) = isDig (UInt8.ofNat n) := by decide +kernel
theorem isDig_mem (b : UInt8) : digs.contains b = isDig b := by
  have := isDig_all b.toNat b.toNat_lt
  simpa using this
theorem drop_nil {p : UInt8 → Bool} : ∀ {l : List UInt8}, l.dropWhile p = [] ↔ l.all p = true
  | [] => by simp
  | x :: r => by
    have ih := drop_nil (p := p) (l := r)
    by_cases h : p x = true
    · simp [h, ih]
    · simp [h]
theorem tw_all (p : UInt8 → Bool) : ∀ l : List UInt8, (l.takeWhile p).all p = true
  | [] => rfl
  | x :: r => by
    rw [List.takeWhile_cons]
    cases h : p x with
    | true => simp [h, tw_all p r]
    | false => simp
theorem trim_nil (l : List UInt8) : Lib.trimS l digs = [] ↔ l.all isDig = true := by
  have e : (fun b => digs.contains b) = isDig := funext isDig_mem
  unfold Lib.trimS Lib.trimLeftS Lib.trimRightS
  rw [e, drop_nil, List.all_reverse]
  have h := List.takeWhile_append_dropWhile (p := isDig) (l := l.reverse)
  have ht := tw_all isDig l.reverse
  have ha : l.all isDig = ((l.reverse.takeWhile isDig).all isDig && (l.reverse.dropWhile isDig).all isDig) := by
    rw [← List.all_append, h, List.all_reverse]
  rw [ha, ht]
  simp
set_option maxRecDepth 100000 in
set_option maxHeartbeats 1600000 in
theorem finger_any (s : ByteArray) (l : List UInt8) (w : World) (hS : s.data.toList = l) (hm : l.length ≤ maxLen) :
    Calls Tryz.prog 64 #[.string s] w fun r w' => r = .returned (.bool (fingB l)) ∧ Below w.heap.size w w' := by
  have hz : s.size = l.length := by rw [Lib.size_eq, hS]
  obtain ⟨n, hn⟩ : ∃ n, l.length = n := ⟨_, rfl⟩
  obtain ⟨c, hc⟩ : ∃ c : ByteArray, ⟨digs.toArray⟩ = c := ⟨_, rfl⟩
  have CT := Any.strings_Trim_laid Tryz.lays160 (by kernel_rfl) s c w (by unfold maxLen at hm; omega) (by rw [← hc]; decide) (by rw [← hc]; exact ascii_of_all (by decide))
  obtain ⟨T, hT⟩ : ∃ T : ByteArray, ⟨(Lib.trimS s.data.toList c.data.toList).toArray⟩ = T := ⟨_, rfl⟩
  have hTd : T.data.toList = Lib.trimS l digs := by rw [← hT, ← hc, hS]
  rw [hT] at CT
  have CT := Lib.hid CT
  have hcl : c = ⟨#[48, 49, 50, 51, 52, 53, 54, 55, 56, 57, 97, 98, 99, 100, 101, 102]⟩ := by rw [← hc]; rfl
  rw [hcl] at CT
  obtain ⟨b, hb⟩ : ∃ b, l.all isDig = b := ⟨_, rfl⟩
  have hTe : (T.toList == ByteArray.toList ⟨#[]⟩) = b := by
    rw [Lib.toList_data, hTd, ← hb, Bool.eq_iff_iff, beq_iff_eq, Lib.toList_data]
    exact trim_nil l
  have hTi : T.toList.isEmpty = b := by
    rw [Lib.toList_data, hTd, ← hb, Bool.eq_iff_iff, List.isEmpty_iff]
    exact trim_nil l
  have HF : Hid (fingB l = (decide (n = 64) && b)) := Lib.hid (by unfold fingB; rw [hn, hb])
  rw [hn] at hz
  have hnz : (n : Int) ≤ 9223372036854775807 := by unfold maxLen at hm; omega
  clear hT hTd hc hcl hb hn hm hS
  by_cases h64 : n = 64
  · have hzb : ((s.size : Int) == 64) = true := by simp; omega
    have HF2 : Hid (fingB l = b) := Lib.hid (by rw [HF.out, decide_eq_true h64]; rfl)
    go_enter Tryz.func64, Tryz.ntmps64
    repeat (first | (go_at_call 95; refine CT.out.mono ?_; rintro r w1 ⟨rfl, hb1⟩; simp only []; have B1 := Lib.hid hb1; clear hb1) | go_skip | go_guarded | go_step | go_upon)
    go_ret
    exact ⟨by rw [HF2.out]; first | rw [hTi] | rfl, B1.out⟩
  · have hzb : ((s.size : Int) == 64) = false := by simp; omega
    have HF2 : Hid (fingB l = false) := Lib.hid (by rw [HF.out, decide_eq_false h64]; rfl)
    go_enter Tryz.func64, Tryz.ntmps64
    repeat (first | go_skip | go_guarded | go_step | go_upon)
    go_ret
    exact ⟨by rw [HF2.out]; rfl, Below.refl _ _⟩
set_option maxRecDepth 100000 in
set_option maxHeartbeats 1600000 in
theorem has_any (n : Nd) (w : World) (hd : n.data.length ≤ maxLen) :
    Calls Tryz.prog 32 #[ndVal n] w fun r w' => r = .returned (.bool (!bareN n)) ∧ Below w.heap.size w w' := by
  obtain ⟨q, k, d, m⟩ := n
  obtain ⟨Q, hQ, hQd⟩ := txt_of q
  obtain ⟨D, hD, hDd⟩ := txt_of d
  unfold ndVal
  simp only at hd ⊢
  rw [hQ, hD]
  obtain ⟨b, hb⟩ : ∃ b, fingB d = b := ⟨_, rfl⟩
  have CO : Hid (∀ W, Calls Tryz.prog 64 #[.string D] W fun e w' => e = .returned (.bool b) ∧ Below W.heap.size W w') := Lib.hid (fun W => by
    rw [← hb]
    exact finger_any D d W hDd hd)
  have B0 : Hid (Below w.heap.size w (w.alloc (.cells #[.string Q, .int .i64 k, .string D, .int .i64 m] 25))) := Lib.hid ((Below.refl _ _).alloc (Nat.le_refl _) _)
  have HV : Hid (bareN ⟨q, k, d, m⟩ = (decide (k = 2) || b)) := Lib.hid (by unfold bareN; rw [hb])
  clear hQ hQd hD hDd hb hd
  by_cases hk : k = 2
  · subst hk
    have HV2 : Hid (bareN ⟨q, 2, d, m⟩ = true) := Lib.hid (by rw [HV.out]; rfl)
    go_enter Tryz.func32, Tryz.ntmps32
    repeat (first | go_skip | go_guarded | go_step | go_upon)
    go_ret
    exact ⟨by rw [HV2.out]; rfl, B0.out⟩
  · have hkb : (k != 2) = true := by simp [hk]
    have HV2 : Hid (bareN ⟨q, k, d, m⟩ = b) := Lib.hid (by rw [HV.out, decide_eq_false hk]; rfl)
    go_enter Tryz.func32, Tryz.ntmps32
    repeat (first | (go_at_call 64; refine (CO.out _).mono ?_; rintro r w1 ⟨rfl, hb⟩; simp only []; have B1 := Lib.hid (Below.trans B0.out (hb.mono B0.out.size)); clear hb) | go_skip | go_guarded | go_step | go_upon)
    go_ret
    exact ⟨by rw [HV2.out]; first | done | rfl | simp [hkb], B1.out⟩
/-- Whether one of them has data. -/
def anyD (v : List Nd) : Bool := v.any fun n => !bareN n
def LongD (ts : List Nd) : Prop := ∀ n ∈ ts, n.data.length ≤ maxLen
set_option maxRecDepth 100000 in
set_option maxHeartbeats 1600000 in
theorem index_any (bo : Option Addr) (cb : Nat) (v : List Nd) (w : World) (h : LayN w bo v) (hs : LongD v) (hl : v.length ≤ 1000) :
    Calls Tryz.prog 63 #[.slice bo v.length cb, .func (.func 32) #[] #[]] w fun r w' => ∃ z : Int, r = .returned (.int .i64 z) ∧ decide (0 ≤ z) = anyD v ∧ Below w.heap.size w w' := by
  have eg : ∀ args w, (callFunc 32 args).run Tryz.prog w = .ok (.enter 32 args) w := enters_of Tryz.func32 (by kernel_rfl) rfl
  obtain ⟨m, hm⟩ : ∃ m, v.length = m := ⟨_, rfl⟩
  have HM := Lib.hid hm
  have HL := Lib.hid h
  have HS := Lib.hid hs
  rw [hm] at hl ⊢
  have hmz : (m : Int) ≤ 1000 := by omega
  clear h hs hm
  go_enter Tryz.func63, Tryz.ntmps63
  repeat (first | go_skip | go_guarded | go_step | go_upon)
  go_loopw [8] (fun s8 wr => ∃ k : Nat, s8 = .int .i64 k ∧ k ≤ m ∧ anyD (v.take k) = false ∧ Below w.heap.size w wr) (fun s8 _ => m - (Go.RowKit.intOf s8).toNat)
  case atStart => exact ⟨0, rfl, Nat.zero_le _, rfl, Below.refl _ _⟩
  case round =>
    obtain ⟨k, rfl, hk, hbad, hb⟩ := hrel
    have HB := Lib.hid hb
    have HBd := Lib.hid hbad
    have hbs := hb.size
    have hLr := HL.out.below hb
    clear hbad
    by_cases hlt : k < m
    · have hkz : (k : Int) < m := by omega
      obtain ⟨g, o, rfl, hg, hcell⟩ := hLr (by rw [HM.out]; omega)
      obtain ⟨x, hx⟩ : ∃ x, v[k]? = some x := ⟨v[k]'(by rw [HM.out]; exact hlt), List.getElem?_eq_getElem _⟩
      obtain ⟨c0, c1, c2, c3⟩ := hcell k x hx
      obtain ⟨X, hX, _⟩ := txt_of x.path
      obtain ⟨D, hD, _⟩ := txt_of x.data
      rw [hX] at c0
      rw [hD] at c2
      have cx := has_any x wr (HS.out x (List.mem_of_getElem? hx))
      unfold ndVal at cx
      rw [hX, hD] at cx
      obtain ⟨b, hbb⟩ : ∃ b, bareN x = b := ⟨_, rfl⟩
      have HBb := Lib.hid hbb
      rw [hbb] at cx
      have HX := Lib.hid hx
      have CX := Lib.hid cx
      clear hb hcell hx hX hD cx hbb hLr hlt
      cases b with
      | true =>
        have HB2 : Hid (anyD (v.take (k + 1)) = false) := Lib.hid (by
          unfold anyD
          rw [List.take_add_one, HX.out, Option.toList_some, List.any_append]
          have := HBd.out
          unfold anyD at this
          rw [this]
          simp [HBb.out])
        repeat (first | (go_at_fn 32; refine CX.out.mono ?_; rintro r w1 ⟨rfl, hb⟩; simp only []; have B1 := Lib.hid (Below.trans HB.out (hb.mono hbs)); clear hb) | go_skip | go_guarded | go_step | go_upon)
        exact ⟨⟨k + 1, by go_num, by omega, HB2.out, B1.out⟩, by simp [Go.RowKit.intOf]; omega⟩
      | false =>
        have HF : Hid (anyD v = true) := Lib.hid (by
          unfold anyD
          rw [List.any_eq_true]
          exact ⟨x, List.mem_of_getElem? HX.out, by rw [HBb.out]; rfl⟩)
        repeat (first | (go_at_fn 32; refine CX.out.mono ?_; rintro r w1 ⟨rfl, hb⟩; simp only []; have B1 := Lib.hid (Below.trans HB.out (hb.mono hbs)); clear hb) | go_skip | go_guarded | go_step | go_upon)
        go_ret
        exact ⟨_, rfl, by rw [HF.out]; simp, B1.out⟩
    · have hkz : ¬ (k : Int) < m := by omega
      have HF : Hid (anyD v = false) := Lib.hid (by
        have := HBd.out
        rw [List.take_of_length_le (by rw [HM.out]; omega)] at this
        exact this)
      clear hlt hb hLr
      repeat (first | go_skip | go_guarded | go_step | go_upon)
      go_ret
      exact ⟨_, rfl, by rw [HF.out]; simp, HB.out⟩
set_option maxRecDepth 100000 in
theorem contains_any (bo : Option Addr) (cb : Nat) (v : List Nd) (w : World) (h : LayN w bo v) (hs : LongD v) (hl : v.length ≤ 1000) :
    Calls Tryz.prog 31 #[.slice bo v.length cb, .func (.func 32) #[] #[]] w fun r w' => r = .returned (.bool (anyD v)) ∧ Below w.heap.size w w' := by
  have CI := Lib.hid (index_any bo cb v w h hs hl)
  obtain ⟨m, hm⟩ : ∃ m, v.length = m := ⟨_, rfl⟩
  rw [hm] at CI ⊢
  clear h hs hl hm
  go_enter Tryz.func31, Tryz.ntmps31
  repeat (first | (go_at_call 63; refine CI.out.mono ?_; rintro r w1 ⟨z, rfl, hz, hb⟩; simp only []; have HZ := Lib.hid hz; have B1 := Lib.hid hb; clear hb hz) | go_skip | go_guarded | go_step | go_upon)
  go_ret
  exact ⟨by rw [← HZ.out]; rfl, B1.out⟩
theorem bare_eq (t : List Nd) : bareB t = (treeB t && !anyD t) := by
  unfold bareB anyD
  congr 1
  rw [List.not_any_eq_all_not]
  congr 1
  funext n
  simp
set_option maxRecDepth 100000 in
set_option maxHeartbeats 1600000 in
theorem isBare_any (ao : Option Addr) (ca : Nat) (ts : List Nd) (w : World) (he : NF.Env w) (h : Wide w ao ca ts) :
    Calls Tryz.prog 13 #[.slice ao ts.length ca] w fun r w' => r = .returned (.bool (bareB ts)) ∧ Below w.heap.size w w' := by
  have CC := Lib.hid (h.check he)
  have HE := Lib.hid (bare_eq ts)
  obtain ⟨n, hn⟩ : ∃ n, ts.length = n := ⟨_, rfl⟩
  cases ht : treeB ts with
  | true =>
    have t := (tree_iff ts).1 ht
    have hl := t.len
    have hd : LongD ts := fun x hx => by
      have := small_right (t.right x hx)
      unfold maxLen
      omega
    obtain ⟨b, hb⟩ : ∃ b, anyD ts = b := ⟨_, rfl⟩
    have CF : Hid (∀ W, Below w.heap.size w W → Calls Tryz.prog 31 #[.slice ao ts.length ca, .func (.func 32) #[] #[]] W fun r w' => r = .returned (.bool b) ∧ Below W.heap.size W w') := Lib.hid (fun W hW => by
      have := contains_any ao ca ts W (h.lay.below hW) hd hl
      rw [hb] at this
      exact this)
    have HV : Hid (bareB ts = !b) := Lib.hid (by rw [HE.out, ht, hb]; rfl)
    have e0 : checkG ts = 0 := check_yes ht
    rw [e0, hn] at CC
    rw [hn] at CF ⊢
    clear h he hn ht t hl hd hb e0 HE
    go_enter Tryz.func13, Tryz.ntmps13
    repeat (first | (go_at_call 25; refine CC.out.mono ?_; rintro r w1 ⟨rfl, hb⟩; simp only []; have B1 := Lib.hid hb; clear hb) | (go_at_call 31; refine (CF.out _ B1.out).mono ?_; rintro r w2 ⟨rfl, hb⟩; simp only []; have B2 := Lib.hid (Below.trans B1.out (hb.mono B1.out.size)); clear hb) | go_skip | go_guarded | go_step | go_upon)
    go_ret
    exact ⟨by rw [HV.out]; first | done | rfl | simp, B2.out⟩
  | false =>
    have e0 : checkG ts = 60 := check_no ht
    have HV : Hid (bareB ts = false) := Lib.hid (by rw [HE.out, ht]; rfl)
    rw [e0, hn] at CC
    rw [hn]
    clear h he hn ht e0 HE
    go_enter Tryz.func13, Tryz.ntmps13
    repeat (first | (go_at_call 25; refine CC.out.mono ?_; rintro r w1 ⟨rfl, hb⟩; simp only []; have B1 := Lib.hid hb; clear hb) | go_skip | go_guarded | go_step | go_upon)
    go_ret
    exact ⟨by rw [HV.out]; rfl, B1.out⟩
end AR
end Go.Proofs.YtfkaackhikbbkaaGreatDoor
