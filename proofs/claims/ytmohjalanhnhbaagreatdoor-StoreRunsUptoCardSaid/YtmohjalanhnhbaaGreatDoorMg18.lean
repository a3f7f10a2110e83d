/- Texts of this seat, put one behind the other: what its statements share (part 18). -/
import Derived.Test.YtmohjalanhnhbaaGreatDoorMg10
import Derived.Test.YtmohjalanhnhbaaGreatDoorMg17
set_option linter.all false
set_option maxRecDepth 100000
set_option maxHeartbeats 25600000
section
namespace Go.Proofs.YtmohjalanhnhbaaGreatDoor
open Go.RowKit Go.Lib Go.BigFrame
namespace DG
open OM TP TM DP DM TG TR FP
open _root_.Go.Proofs.YtmohjalanhnhbaaGreatDoor.ST (besideL save1 save2 save3 saveD clear2 clearD loadD)
theorem Aft.under {w W V W':World} {S:Nat->Prop} {P m:Nat} {D:Dk} (hb:Below W.heap.size W V) (h:Aft w V S P m D W'):Aft w W S P m D W':=by
 obtain⟨S',hd,hs,ho⟩:=h
 exact⟨S',hd,fun k hk=>(hs k hk).imp id (fun h=>Nat.le_trans hb.size h),((Out.refl _ W).thenBelow hb).then ho (fun _ _ h=>h)⟩
theorem Aft.chain {w W V W':World} {S S1:Nat->Prop} {P m:Nat} {D:Dk} (hs1:∀ k,S1 k->S k∨W.heap.size<=k) (ho1:Out (fun k=>S k∨k=P) W V) (h:Aft w V S1 P m D W'):Aft w W S P m D W':=by
 obtain⟨S',hd,hs,ho⟩:=h
 refine⟨S',hd,fun k hk=>?_,ho1.then ho (fun j hj h=>?_)⟩
 ·rcases hs k hk with h|h
  ·exact hs1 k h
  ·exact .inr (Nat.le_trans ho1.size h)
 ·rcases h with h|h
  ·rcases hs1 j h with h|h
   ·exact .inl h
   ·omega
  ·exact .inr h
theorem Aft.mono {w W W':World} {S:Nat->Prop} {P m n:Nat} {D:Dk} (h:Aft w W S P m D W') (hm:m<=n):Aft w W S P n D W':=by
 obtain⟨S',hd,hs,ho⟩:=h
 exact⟨S',⟨hd.disk,hd.lo,hd.pl,hd.bel,hd.num.mono hm⟩,hs,ho⟩
theorem tilde (p:List UInt8) (X:ByteArray) (h:X.data.toList=p):(Value.string (X++⟨#[126]⟩))=txt (besideL p):=by
 unfold txt besideL
 congr 1
 apply ByteArray.ext
 apply Array.ext'
 simp [h]
theorem beside_any (p:List UInt8) (w:World) (hp:p.length+1<=maxLen):Calls Tryz.prog 91 #[txt p] w fun r w'=>r=.returned (txt (besideL p))/\Below w.heap.size w w':=by
 obtain⟨X,hX,hXd⟩:=txt_of p
 have hs:¬ 9223372036854775807<X.size+1:=by
  rw [Lib.size_eq,hXd]
  unfold maxLen at hp
  omega
 rw [<- tilde p X hXd,hX]
 clear hX hXd hp
 go_enter Tryz.func91,Tryz.ntmps91
 repeat (first|go_skip|go_guarded|go_step|go_upon)
 go_ret
 exact⟨rfl,Below.refl _ _⟩
theorem sv1_any (w W:World) (S:Nat->Prop) (P m:Nat) (D:Dk) (p t:List UInt8) (h:DS w W S P m D) (he:NF.Env w) (hm:m<=99990) (hp:p.length+1<=maxLen) (bd bb bt:Nat)
  (c1:W.cell? ⟨bd,0,none⟩=some (.pointer (some ⟨P,0,none⟩))) (c2:W.cell? ⟨bb,0,none⟩=some (txt (besideL p))) (c3:W.cell? ⟨bt,0,none⟩=some (txt t)) :
  Calls Tryz.prog 93 #[.pointer (some ⟨bd,0,none⟩),.pointer (some ⟨bb,0,none⟩),.pointer (some ⟨bt,0,none⟩)] W fun r W'=>r=.returned (.int .i64 (writeD D (besideL p) t 384).2)/\Aft w W S P (m+1) (writeD D (besideL p) t 384).1 W':=by
 have CW:Hid (∀ V,Below W.heap.size W V->Calls Tryz.prog 12 #[.pointer (some ⟨P,0,none⟩),txt (besideL p),txt t,.int .i64 384] V fun r W'=>r=.returned (.int .i64 (writeD D (besideL p) t 384).2)/\Aft w W S P (m+1) (writeD D (besideL p) t 384).1 W'):=Lib.hid (fun V hV=>by
  refine ((h.below hV).write he (by omega) (besideL p) t 384 (by unfold besideL;simp;omega)).mono ?_
  rintro r W' ⟨hr,ha⟩
  exact⟨hr,ha.under hV⟩)
 obtain⟨B,hB,-⟩:=txt_of (besideL p)
 rw [hB] at CW
 rw [hB] at c2
 obtain⟨T,hT,-⟩:=txt_of t
 rw [hT] at CW
 rw [hT] at c3
 clear hB hT
 obtain⟨⟨E,e⟩,hE⟩:∃ z,(writeD D (besideL p) t 384)=z:=⟨_,rfl⟩
 rw [hE] at CW ⊢
 clear hE h he hm hp
 go_enter Tryz.func93,Tryz.ntmps93
 repeat (first|go_skip|go_guarded|go_step|go_upon)
 refine (CW.out _ (Below.refl _ _)).mono ?_
 rintro r W' ⟨rfl,ha⟩
 simp only []
 have HA:=Lib.hid ha
 clear ha
 repeat (first|go_skip|go_guarded|go_step|go_upon)
 go_ret
 exact⟨rfl,HA.out⟩
theorem sv2_any (w W:World) (S:Nat->Prop) (P m:Nat) (D:Dk) (p:List UInt8) (h:DS w W S P m D) (he:NF.Env w) (hm:m<=99990) (hp:p.length+1<=maxLen) (bd bb:Nat)
  (c1:W.cell? ⟨bd,0,none⟩=some (.pointer (some ⟨P,0,none⟩))) (c2:W.cell? ⟨bb,0,none⟩=some (txt (besideL p))) :
  Calls Tryz.prog 94 #[.pointer (some ⟨bd,0,none⟩),.pointer (some ⟨bb,0,none⟩)] W fun r W'=>r=.returned (.int .i64 (syncD D (besideL p)).2)/\Aft w W S P (m+1) (syncD D (besideL p)).1 W':=by
 have CW:Hid (∀ V,Below W.heap.size W V->Calls Tryz.prog 50 #[.pointer (some ⟨P,0,none⟩),txt (besideL p)] V fun r W'=>r=.returned (.int .i64 (syncD D (besideL p)).2)/\Aft w W S P (m+1) (syncD D (besideL p)).1 W'):=Lib.hid (fun V hV=>by
  refine ((h.below hV).sync he (by omega) (besideL p) (by unfold besideL;simp;omega)).mono ?_
  rintro r W' ⟨hr,ha⟩
  exact⟨hr,ha.under hV⟩)
 obtain⟨B,hB,-⟩:=txt_of (besideL p)
 rw [hB] at CW
 rw [hB] at c2
 clear hB
 obtain⟨⟨E,e⟩,hE⟩:∃ z,(syncD D (besideL p))=z:=⟨_,rfl⟩
 rw [hE] at CW ⊢
 clear hE h he hm hp
 go_enter Tryz.func94,Tryz.ntmps94
 repeat (first|go_skip|go_guarded|go_step|go_upon)
 refine (CW.out _ (Below.refl _ _)).mono ?_
 rintro r W' ⟨rfl,ha⟩
 simp only []
 have HA:=Lib.hid ha
 clear ha
 repeat (first|go_skip|go_guarded|go_step|go_upon)
 go_ret
 exact⟨rfl,HA.out⟩
theorem sv3_any (w W:World) (S:Nat->Prop) (P m:Nat) (D:Dk) (p:List UInt8) (h:DS w W S P m D) (he:NF.Env w) (hm:m<=99990) (hp:p.length+1<=maxLen) (bd bb bp:Nat)
  (c1:W.cell? ⟨bd,0,none⟩=some (.pointer (some ⟨P,0,none⟩))) (c2:W.cell? ⟨bb,0,none⟩=some (txt (besideL p))) (c3:W.cell? ⟨bp,0,none⟩=some (txt p)) :
  Calls Tryz.prog 95 #[.pointer (some ⟨bd,0,none⟩),.pointer (some ⟨bb,0,none⟩),.pointer (some ⟨bp,0,none⟩)] W fun r W'=>r=.returned (.int .i64 (replaceD D (besideL p) p).2)/\Aft w W S P (m+1) (replaceD D (besideL p) p).1 W':=by
 have CW:Hid (∀ V,Below W.heap.size W V->Calls Tryz.prog 49 #[.pointer (some ⟨P,0,none⟩),txt (besideL p),txt p] V fun r W'=>r=.returned (.int .i64 (replaceD D (besideL p) p).2)/\Aft w W S P (m+1) (replaceD D (besideL p) p).1 W'):=Lib.hid (fun V hV=>by
  refine ((h.below hV).replace he (by omega) (besideL p) p (by unfold besideL;simp;omega) (by omega)).mono ?_
  rintro r W' ⟨hr,ha⟩
  exact⟨hr,ha.under hV⟩)
 obtain⟨B,hB,-⟩:=txt_of (besideL p)
 rw [hB] at CW
 rw [hB] at c2
 obtain⟨X,hX,-⟩:=txt_of p
 rw [hX] at CW
 rw [hX] at c3
 clear hB hX
 obtain⟨⟨E,e⟩,hE⟩:∃ z,(replaceD D (besideL p) p)=z:=⟨_,rfl⟩
 rw [hE] at CW ⊢
 clear hE h he hm hp
 go_enter Tryz.func95,Tryz.ntmps95
 repeat (first|go_skip|go_guarded|go_step|go_upon)
 refine (CW.out _ (Below.refl _ _)).mono ?_
 rintro r W' ⟨rfl,ha⟩
 simp only []
 have HA:=Lib.hid ha
 clear ha
 repeat (first|go_skip|go_guarded|go_step|go_upon)
 go_ret
 exact⟨rfl,HA.out⟩
theorem cl1_any (w W:World) (S:Nat->Prop) (P m:Nat) (D:Dk) (p:List UInt8) (h:DS w W S P m D) (he:NF.Env w) (hm:m<=99990) (hp:p.length+1<=maxLen) (bd bp:Nat)
  (c1:W.cell? ⟨bd,0,none⟩=some (.pointer (some ⟨P,0,none⟩))) (c2:W.cell? ⟨bp,0,none⟩=some (txt p)) :
  Calls Tryz.prog 96 #[.pointer (some ⟨bd,0,none⟩),.pointer (some ⟨bp,0,none⟩)] W fun r W'=>r=.returned (.int .i64 (removeD D p).2)/\Aft w W S P (m+1) (removeD D p).1 W':=by
 have CW:Hid (∀ V,Below W.heap.size W V->Calls Tryz.prog 47 #[.pointer (some ⟨P,0,none⟩),txt p] V fun r W'=>r=.returned (.int .i64 (removeD D p).2)/\Aft w W S P (m+1) (removeD D p).1 W'):=Lib.hid (fun V hV=>by
  refine ((h.below hV).remove he (by omega) p (by omega)).mono ?_
  rintro r W' ⟨hr,ha⟩
  exact⟨hr,ha.under hV⟩)
 obtain⟨X,hX,-⟩:=txt_of p
 rw [hX] at CW
 rw [hX] at c2
 clear hX
 obtain⟨⟨E,e⟩,hE⟩:∃ z,(removeD D p)=z:=⟨_,rfl⟩
 rw [hE] at CW ⊢
 clear hE h he hm hp
 go_enter Tryz.func96,Tryz.ntmps96
 repeat (first|go_skip|go_guarded|go_step|go_upon)
 refine (CW.out _ (Below.refl _ _)).mono ?_
 rintro r W' ⟨rfl,ha⟩
 simp only []
 have HA:=Lib.hid ha
 clear ha
 repeat (first|go_skip|go_guarded|go_step|go_upon)
 go_ret
 exact⟨rfl,HA.out⟩
structure Boxes (W:World) (S:Nat->Prop) (P g:Nat) (l:List (Nat×Value)) (fs:List Value):Prop where
 cell:∀ x∈l,W.cell? ⟨x.1,0,none⟩=some x.2/\x.1<W.heap.size/\¬ S x.1/\x.1≠P
 fns:∀ (j:Nat) v,fs[j]?=some v->W.cell? ⟨g,j,none⟩=some v
 lt:g<W.heap.size
 ns:¬ S g
 np:g≠P
theorem Boxes.next {W W':World} {S S':Nat->Prop} {P g:Nat} {l:List (Nat×Value)} {fs:List Value} (h:Boxes W S P g l fs) (hs:∀ k,S' k->S k∨W.heap.size<=k) (ho:Out (fun k=>S k∨k=P) W W'):Boxes W' S' P g l fs:=by
 refine⟨fun x hx=>?_,fun j v hv=>?_,Nat.lt_of_lt_of_le h.lt ho.size,fun hk=>?_,h.np⟩
 ·obtain⟨h1,h2,h3,h4⟩:=h.cell x hx
  refine⟨(ho.cell (p:=⟨x.1,0,none⟩) h2 (fun hk=>hk.elim h3 h4)).trans h1,Nat.lt_of_lt_of_le h2 ho.size,fun hk=>?_,h4⟩
  rcases hs _ hk with h|h
  ·exact h3 h
  ·omega
 ·exact (ho.cell (p:=⟨g,j,none⟩) h.lt (fun hk=>hk.elim h.ns h.np)).trans (h.fns j v hv)
 ·rcases hs _ hk with h1|h1
  ·exact h.ns h1
  ·have:=h.lt;omega
def saveF (bd bb bt bp P:Nat):List Value :=
 [.func (.func 93) #[] #[.pointer (some ⟨bd,0,none⟩),.pointer (some ⟨bb,0,none⟩),.pointer (some ⟨bt,0,none⟩)],
   .func (.func 94) #[] #[.pointer (some ⟨bd,0,none⟩),.pointer (some ⟨bb,0,none⟩)],
   .func (.func 95) #[] #[.pointer (some ⟨bd,0,none⟩),.pointer (some ⟨bb,0,none⟩),.pointer (some ⟨bp,0,none⟩)],
   .func (.func 51) #[.pointer (some ⟨P,0,none⟩)] #[]]
def saveK (D:Dk) (p t:List UInt8) (k:Nat):Dk×Int:=match k with|0=>(D,0)|1=>save1 D p t|2=>save2 D p t|3=>save3 D p t|_=>saveD D p t
theorem saveK_next {D:Dk} {p t:List UInt8} {k:Nat} (hk:k<4) (h:(saveK D p t k).2=0):saveK D p t (k+1) =
  (match k with|0=>writeD (saveK D p t 0).1 (besideL p) t 384|1=>syncD (saveK D p t 1).1 (besideL p)|2=>replaceD (saveK D p t 2).1 (besideL p) p|_=>flushD (saveK D p t 3).1):=by
 match k,hk with
 | 0,_=>rfl
 | 1,_=>exact (show DP.after (saveK D p t 1) (fun E=>syncD E (besideL p))=syncD (saveK D p t 1).1 (besideL p) from _root_.Go.Proofs.YtmohjalanhnhbaaGreatDoor.ST.aft_yes h)
 | 2,_=>exact (show DP.after (saveK D p t 2) (fun E=>replaceD E (besideL p) p)=replaceD (saveK D p t 2).1 (besideL p) p from _root_.Go.Proofs.YtmohjalanhnhbaaGreatDoor.ST.aft_yes h)
 | 3,_=>exact (show DP.after (saveK D p t 3) (fun E=>flushD E)=flushD (saveK D p t 3).1 from _root_.Go.Proofs.YtmohjalanhnhbaaGreatDoor.ST.aft_yes h)
theorem saveK_fail {D:Dk} {p t:List UInt8} {k:Nat} (hk:k<=4) (h:(saveK D p t k).2≠0):saveD D p t=saveK D p t k:=by
 match k,hk with
 | 0,_=>exact absurd rfl h
 | 1,_ =>
  have h1:save2 D p t=save1 D p t:=_root_.Go.Proofs.YtmohjalanhnhbaaGreatDoor.ST.aft_no h
  have h2:save3 D p t=save2 D p t:=_root_.Go.Proofs.YtmohjalanhnhbaaGreatDoor.ST.aft_no (by rw [h1];exact h)
  have h3:saveD D p t=save3 D p t:=_root_.Go.Proofs.YtmohjalanhnhbaaGreatDoor.ST.aft_no (by rw [h2,h1];exact h)
  rw [h3,h2,h1]
  rfl
 | 2,_ =>
  have h2:save3 D p t=save2 D p t:=_root_.Go.Proofs.YtmohjalanhnhbaaGreatDoor.ST.aft_no h
  have h3:saveD D p t=save3 D p t:=_root_.Go.Proofs.YtmohjalanhnhbaaGreatDoor.ST.aft_no (by rw [h2];exact h)
  rw [h3,h2]
  rfl
 | 3,_ =>
  have h3:saveD D p t=save3 D p t:=_root_.Go.Proofs.YtmohjalanhnhbaaGreatDoor.ST.aft_no h
  rw [h3]
  rfl
 | 4,_=>rfl
def SI (w W wr:World) (S:Nat->Prop) (P m g:Nat) (D:Dk) (l:List (Nat×Value)) (fs:List Value):Prop :=
 ∃ Sk,DS w wr Sk P m D/\(∀ j,Sk j->S j∨W.heap.size<=j)/\Out (fun k=>S k∨k=P) W wr/\Boxes wr Sk P g l fs
theorem SI.step {w W wr:World} {S:Nat->Prop} {P m g:Nat} {D:Dk} {l:List (Nat×Value)} {fs:List Value} (h:SI w W wr S P m g D l fs) :
  ∃ Sk,DS w wr Sk P m D/\Boxes wr Sk P g l fs/\∀ (n:Nat) (E:Dk) (W':World),Aft w wr Sk P n E W'->SI w W W' S P n g E l fs/\Aft w W S P n E W':=by
 obtain⟨Sk,hd,hs,ho,hb⟩:=h
 refine⟨Sk,hd,hb,fun n E W' ha=>?_⟩
 have hc:=Aft.chain hs ho ha
 obtain⟨S',hd',hs',ho'⟩:=ha
 refine⟨⟨S',hd',fun j hj=>?_,?_,hb.next hs' ho'⟩,hc⟩
 ·rcases hs' j hj with h|h
  ·exact hs j h
  ·exact .inr (Nat.le_trans ho.size h)
 ·exact ho.then ho' (fun j hj h=>by
   rcases h with h|h
   ·rcases hs j h with h|h
    ·exact .inl h
    ·omega
   ·exact .inr h)
theorem untilS_any (w W:World) (S:Nat->Prop) (P m g bd bb bt bp:Nat) (D:Dk) (p t:List UInt8) (h:DS w W S P m D) (he:NF.Env w) (hm:m<=99980) (hp:p.length+1<=maxLen)
  (hb:Boxes W S P g [(bd,.pointer (some ⟨P,0,none⟩)),(bb,txt (besideL p)),(bt,txt t),(bp,txt p)] (saveF bd bb bt bp P)) :
  Calls Tryz.prog 92 #[.slice (some ⟨g,0,none⟩) 4 4] W fun r W'=>r=.returned (.int .i64 (saveD D p t).2)/\Aft w W S P (m+4) (saveD D p t).1 W':=by
 have e1:∀ args w,(callFunc 93 args).run Tryz.prog w=.ok (.enter 93 args) w:=enters_of Tryz.func93 (by kernel_rfl) rfl
 have e2:∀ args w,(callFunc 94 args).run Tryz.prog w=.ok (.enter 94 args) w:=enters_of Tryz.func94 (by kernel_rfl) rfl
 have e3:∀ args w,(callFunc 95 args).run Tryz.prog w=.ok (.enter 95 args) w:=enters_of Tryz.func95 (by kernel_rfl) rfl
 have e4:∀ args w,(callFunc 51 args).run Tryz.prog w=.ok (.enter 51 args) w:=enters_of Tryz.func51 (by kernel_rfl) rfl
 obtain⟨l,hl⟩:∃ l,l=[(bd,.pointer (some ⟨P,0,none⟩)),(bb,txt (besideL p)),(bt,txt t),(bp,txt p)]:=⟨_,rfl⟩
 obtain⟨fs,hfs⟩:∃ fs,fs=saveF bd bb bt bp P:=⟨_,rfl⟩
 rw [<- hl,← hfs] at hb
 have HL:=Lib.hid hl
 have HF:=Lib.hid hfs
 have HE:=Lib.hid he
 have HP:=Lib.hid hp
 have HM:=Lib.hid hm
 have H0:Hid (SI w W W S P m g D l fs):=Lib.hid ⟨S,h,fun _ h=>.inl h,Out.refl _ _,hb⟩
 obtain⟨R,hR⟩:∃ R,saveD D p t=R:=⟨_,rfl⟩
 have HR:=Lib.hid hR
 rw [hR]
 clear h he hm hp hb hl hfs hR
 go_enter Tryz.func92,Tryz.ntmps92
 repeat (first|go_skip|go_guarded|go_step|go_upon)
 go_loopw [8] (fun s8 wr=>∃ k:Nat,s8=.int .i64 k/\k<=4/\(saveK D p t k).2=0/\SI w W wr S P (m+k) g (saveK D p t k).1 l fs) (fun s8 _=>4-(Go.RowKit.intOf s8).toNat)
 case atStart=>exact⟨0,rfl,by omega,rfl,H0.out⟩
 case round =>
  obtain⟨k,rfl,hk,hz,hs⟩:=hrel
  have HZ:=Lib.hid hz
  clear hz
  by_cases hk4:k<4
  ·have hk4z:(k:Int)<4:=by omega
   obtain⟨Sk,hd,hbx,hnx⟩:=hs.step
   have HN:=Lib.hid hnx
   have HD:=Lib.hid hd
   have HBX:=Lib.hid hbx
   clear hs hd hbx hnx
   have hnext:∀ (E:Dk) (e:Int),saveK D p t (k+1)=(E,e)->Hid ((e=0->(saveK D p t (k+1)).2=0/\(saveK D p t (k+1)).1=E)/\(e≠0->R=(E,e))):=fun E e h=>Lib.hid ⟨fun h0=>by rw [h];exact⟨h0,rfl⟩,fun h0=>by rw [<- HR.out,saveK_fail (k:=k+1) (by omega) (by rw [h];exact h0),h]⟩
   rcases (by omega:k=0∨k=1∨k=2∨k=3) with rfl|rfl|rfl|rfl
   ·obtain⟨⟨E,e⟩,hE⟩:∃ z,writeD (saveK D p t 0).1 (besideL p) t 384=z:=⟨_,rfl⟩
    have HX:=hnext E e (by rw [saveK_next (by omega) HZ.out];exact hE)
    have cx:wr.cell? ⟨g,0,none⟩=some (.func (.func 93) #[] #[.pointer (some ⟨bd,0,none⟩),.pointer (some ⟨bb,0,none⟩),.pointer (some ⟨bt,0,none⟩)]):=HBX.out.fns 0 _ (by rw [HF.out];rfl)
    have CX:Hid (Calls Tryz.prog 93 #[.pointer (some ⟨bd,0,none⟩),.pointer (some ⟨bb,0,none⟩),.pointer (some ⟨bt,0,none⟩)] wr fun r W'=>r=.returned (.int .i64 e)/\Aft w wr Sk P (m+0+1) E W'):=Lib.hid (by
     have:=sv1_any w wr Sk P (m+0) _ p t HD.out HE.out (by have:=HM.out;omega) HP.out bd bb bt (HBX.out.cell (bd,.pointer (some ⟨P,0,none⟩)) (by rw [HL.out];simp)).1 (HBX.out.cell (bb,txt (besideL p)) (by rw [HL.out];simp)).1 (HBX.out.cell (bt,txt t) (by rw [HL.out];simp)).1
     rw [hE] at this
     exact this)
    clear hnext hE
    by_cases he0:e=0
    ·subst he0
     obtain⟨z1,z2⟩:=HX.out.1 rfl
     have Z1:=Lib.hid z1
     have Z2:=Lib.hid z2
     clear z1 z2
     repeat (first|(go_at_fn 93;refine CX.out.mono ?_;rintro r w1 ⟨rfl,ha⟩;simp only [];have HA:=Lib.hid (HN.out _ _ _ ha).1;clear ha)|go_skip|go_guarded|go_step|go_upon)
     exact⟨⟨0+1,by go_num,by omega,Z1.out,by rw [Z2.out];exact HA.out⟩,by simp [Go.RowKit.intOf]⟩
    ·have hne:(e != 0)=true:=by simpa using he0
     have HRe:=Lib.hid (HX.out.2 he0)
     repeat (first|(go_at_fn 93;refine CX.out.mono ?_;rintro r w1 ⟨rfl,ha⟩;simp only [];have HA:=Lib.hid (HN.out _ _ _ ha).2;clear ha)|go_skip|go_guarded|go_step|go_upon)
     go_ret
     rw [HRe.out]
     exact⟨rfl,HA.out.mono (by omega)⟩
   ·obtain⟨⟨E,e⟩,hE⟩:∃ z,syncD (saveK D p t 1).1 (besideL p)=z:=⟨_,rfl⟩
    have HX:=hnext E e (by rw [saveK_next (by omega) HZ.out];exact hE)
    have cx:wr.cell? ⟨g,1,none⟩=some (.func (.func 94) #[] #[.pointer (some ⟨bd,0,none⟩),.pointer (some ⟨bb,0,none⟩)]):=HBX.out.fns 1 _ (by rw [HF.out];rfl)
    have CX:Hid (Calls Tryz.prog 94 #[.pointer (some ⟨bd,0,none⟩),.pointer (some ⟨bb,0,none⟩)] wr fun r W'=>r=.returned (.int .i64 e)/\Aft w wr Sk P (m+1+1) E W'):=Lib.hid (by
     have:=sv2_any w wr Sk P (m+1) _ p HD.out HE.out (by have:=HM.out;omega) HP.out bd bb (HBX.out.cell (bd,.pointer (some ⟨P,0,none⟩)) (by rw [HL.out];simp)).1 (HBX.out.cell (bb,txt (besideL p)) (by rw [HL.out];simp)).1
     rw [hE] at this
     exact this)
    clear hnext hE
    by_cases he0:e=0
    ·subst he0
     obtain⟨z1,z2⟩:=HX.out.1 rfl
     have Z1:=Lib.hid z1
     have Z2:=Lib.hid z2
     clear z1 z2
     repeat (first|(go_at_fn 94;refine CX.out.mono ?_;rintro r w1 ⟨rfl,ha⟩;simp only [];have HA:=Lib.hid (HN.out _ _ _ ha).1;clear ha)|go_skip|go_guarded|go_step|go_upon)
     exact⟨⟨1+1,by go_num,by omega,Z1.out,by rw [Z2.out];exact HA.out⟩,by simp [Go.RowKit.intOf]⟩
    ·have hne:(e != 0)=true:=by simpa using he0
     have HRe:=Lib.hid (HX.out.2 he0)
     repeat (first|(go_at_fn 94;refine CX.out.mono ?_;rintro r w1 ⟨rfl,ha⟩;simp only [];have HA:=Lib.hid (HN.out _ _ _ ha).2;clear ha)|go_skip|go_guarded|go_step|go_upon)
     go_ret
     rw [HRe.out]
     exact⟨rfl,HA.out.mono (by omega)⟩
   ·obtain⟨⟨E,e⟩,hE⟩:∃ z,replaceD (saveK D p t 2).1 (besideL p) p=z:=⟨_,rfl⟩
    have HX:=hnext E e (by rw [saveK_next (by omega) HZ.out];exact hE)
    have cx:wr.cell? ⟨g,2,none⟩=some (.func (.func 95) #[] #[.pointer (some ⟨bd,0,none⟩),.pointer (some ⟨bb,0,none⟩),.pointer (some ⟨bp,0,none⟩)]):=HBX.out.fns 2 _ (by rw [HF.out];rfl)
    have CX:Hid (Calls Tryz.prog 95 #[.pointer (some ⟨bd,0,none⟩),.pointer (some ⟨bb,0,none⟩),.pointer (some ⟨bp,0,none⟩)] wr fun r W'=>r=.returned (.int .i64 e)/\Aft w wr Sk P (m+2+1) E W'):=Lib.hid (by
     have:=sv3_any w wr Sk P (m+2) _ p HD.out HE.out (by have:=HM.out;omega) HP.out bd bb bp (HBX.out.cell (bd,.pointer (some ⟨P,0,none⟩)) (by rw [HL.out];simp)).1 (HBX.out.cell (bb,txt (besideL p)) (by rw [HL.out];simp)).1 (HBX.out.cell (bp,txt p) (by rw [HL.out];simp)).1
     rw [hE] at this
     exact this)
    clear hnext hE
    by_cases he0:e=0
    ·subst he0
     obtain⟨z1,z2⟩:=HX.out.1 rfl
     have Z1:=Lib.hid z1
     have Z2:=Lib.hid z2
     clear z1 z2
     repeat (first|(go_at_fn 95;refine CX.out.mono ?_;rintro r w1 ⟨rfl,ha⟩;simp only [];have HA:=Lib.hid (HN.out _ _ _ ha).1;clear ha)|go_skip|go_guarded|go_step|go_upon)
     exact⟨⟨2+1,by go_num,by omega,Z1.out,by rw [Z2.out];exact HA.out⟩,by simp [Go.RowKit.intOf]⟩
    ·have hne:(e != 0)=true:=by simpa using he0
     have HRe:=Lib.hid (HX.out.2 he0)
     repeat (first|(go_at_fn 95;refine CX.out.mono ?_;rintro r w1 ⟨rfl,ha⟩;simp only [];have HA:=Lib.hid (HN.out _ _ _ ha).2;clear ha)|go_skip|go_guarded|go_step|go_upon)
     go_ret
     rw [HRe.out]
     exact⟨rfl,HA.out.mono (by omega)⟩
   ·obtain⟨⟨E,e⟩,hE⟩:∃ z,flushD (saveK D p t 3).1=z:=⟨_,rfl⟩
    have HX:=hnext E e (by rw [saveK_next (by omega) HZ.out];exact hE)
    have cx:wr.cell? ⟨g,3,none⟩=some (.func (.func 51) #[.pointer (some ⟨P,0,none⟩)] #[]):=HBX.out.fns 3 _ (by rw [HF.out];rfl)
    have CX:Hid (Calls Tryz.prog 51 #[.pointer (some ⟨P,0,none⟩)] wr fun r W'=>r=.returned (.int .i64 e)/\Aft w wr Sk P (m+3+1) E W'):=Lib.hid (by
     have:=HD.out.flush HE.out (by have:=HM.out;omega)
     rw [hE] at this
     exact this)
    clear hnext hE
    by_cases he0:e=0
    ·subst he0
     obtain⟨z1,z2⟩:=HX.out.1 rfl
     have Z1:=Lib.hid z1
     have Z2:=Lib.hid z2
     clear z1 z2
     repeat (first|(go_at_fn 51;refine CX.out.mono ?_;rintro r w1 ⟨rfl,ha⟩;simp only [];have HA:=Lib.hid (HN.out _ _ _ ha).1;clear ha)|go_skip|go_guarded|go_step|go_upon)
     exact⟨⟨3+1,by go_num,by omega,Z1.out,by rw [Z2.out];exact HA.out⟩,by simp [Go.RowKit.intOf]⟩
    ·have hne:(e != 0)=true:=by simpa using he0
     have HRe:=Lib.hid (HX.out.2 he0)
     repeat (first|(go_at_fn 51;refine CX.out.mono ?_;rintro r w1 ⟨rfl,ha⟩;simp only [];have HA:=Lib.hid (HN.out _ _ _ ha).2;clear ha)|go_skip|go_guarded|go_step|go_upon)
     go_ret
     rw [HRe.out]
     exact⟨rfl,HA.out.mono (by omega)⟩
  ·have hk4z:¬ (k:Int)<4:=by omega
   have HA:Hid (Aft w W S P (m+4) R.1 wr/\R.2=0):=Lib.hid (by
    obtain rfl:k=4:=by omega
    rw [<- HR.out]
    obtain⟨Sk,hd,hs,ho,_⟩:=hs
    exact⟨⟨Sk,hd,hs,ho⟩,HZ.out⟩)
   clear hs hk4
   repeat (first|go_skip|go_guarded|go_step|go_upon)
   go_ret
   exact⟨by rw [HA.out.2];rfl,HA.out.1⟩
def clearF (bd bp P:Nat):List Value :=
 [.func (.func 96) #[] #[.pointer (some ⟨bd,0,none⟩),.pointer (some ⟨bp,0,none⟩)],
   .func (.func 51) #[.pointer (some ⟨P,0,none⟩)] #[]]
def clearK (D:Dk) (p:List UInt8) (k:Nat):Dk×Int:=match k with|0=>(D,0)|1=>removeD D p|_=>clear2 D p
theorem clearK_next {D:Dk} {p:List UInt8} {k:Nat} (hk:k<2) (h:(clearK D p k).2=0):clearK D p (k+1)=(match k with|0=>removeD (clearK D p 0).1 p|_=>flushD (clearK D p 1).1):=by
 match k,hk with
 | 0,_=>rfl
 | 1,_=>exact (show DP.after (clearK D p 1) (fun E=>flushD E)=flushD (clearK D p 1).1 from _root_.Go.Proofs.YtmohjalanhnhbaaGreatDoor.ST.aft_yes h)
theorem clearK_fail {D:Dk} {p:List UInt8} {k:Nat} (hk:k<=2) (h:(clearK D p k).2≠0):clear2 D p=clearK D p k:=by
 match k,hk with
 | 0,_=>exact absurd rfl h
 | 1,_ =>
  have h3:clear2 D p=removeD D p:=_root_.Go.Proofs.YtmohjalanhnhbaaGreatDoor.ST.aft_no h
  rw [h3]
  rfl
 | 2,_=>rfl
theorem untilC_any (w W:World) (S:Nat->Prop) (P m g bd bp:Nat) (D:Dk) (p:List UInt8) (h:DS w W S P m D) (he:NF.Env w) (hm:m<=99980) (hp:p.length+1<=maxLen)
  (hb:Boxes W S P g [(bd,.pointer (some ⟨P,0,none⟩)),(bp,txt p)] (clearF bd bp P)) :
  Calls Tryz.prog 92 #[.slice (some ⟨g,0,none⟩) 2 2] W fun r W'=>r=.returned (.int .i64 (clear2 D p).2)/\Aft w W S P (m+2) (clear2 D p).1 W':=by
 have e1:∀ args w,(callFunc 96 args).run Tryz.prog w=.ok (.enter 96 args) w:=enters_of Tryz.func96 (by kernel_rfl) rfl
 have e4:∀ args w,(callFunc 51 args).run Tryz.prog w=.ok (.enter 51 args) w:=enters_of Tryz.func51 (by kernel_rfl) rfl
 obtain⟨l,hl⟩:∃ l,l=[(bd,.pointer (some ⟨P,0,none⟩)),(bp,txt p)]:=⟨_,rfl⟩
 obtain⟨fs,hfs⟩:∃ fs,fs=clearF bd bp P:=⟨_,rfl⟩
 rw [<- hl,← hfs] at hb
 have HL:=Lib.hid hl
 have HF:=Lib.hid hfs
 have HE:=Lib.hid he
 have HP:=Lib.hid hp
 have HM:=Lib.hid hm
 have H0:Hid (SI w W W S P m g D l fs):=Lib.hid ⟨S,h,fun _ h=>.inl h,Out.refl _ _,hb⟩
 obtain⟨R,hR⟩:∃ R,clear2 D p=R:=⟨_,rfl⟩
 have HR:=Lib.hid hR
 rw [hR]
 clear h he hm hp hb hl hfs hR
 go_enter Tryz.func92,Tryz.ntmps92
 repeat (first|go_skip|go_guarded|go_step|go_upon)
 go_loopw [8] (fun s8 wr=>∃ k:Nat,s8=.int .i64 k/\k<=2/\(clearK D p k).2=0/\SI w W wr S P (m+k) g (clearK D p k).1 l fs) (fun s8 _=>2-(Go.RowKit.intOf s8).toNat)
 case atStart=>exact⟨0,rfl,by omega,rfl,H0.out⟩
 case round =>
  obtain⟨k,rfl,hk,hz,hs⟩:=hrel
  have HZ:=Lib.hid hz
  clear hz
  by_cases hk4:k<2
  ·have hk4z:(k:Int)<2:=by omega
   obtain⟨Sk,hd,hbx,hnx⟩:=hs.step
   have HN:=Lib.hid hnx
   have HD:=Lib.hid hd
   have HBX:=Lib.hid hbx
   clear hs hd hbx hnx
   have hnext:∀ (E:Dk) (e:Int),clearK D p (k+1)=(E,e)->Hid ((e=0->(clearK D p (k+1)).2=0/\(clearK D p (k+1)).1=E)/\(e≠0->R=(E,e))):=fun E e h=>Lib.hid ⟨fun h0=>by rw [h];exact⟨h0,rfl⟩,fun h0=>by rw [<- HR.out,clearK_fail (k:=k+1) (by omega) (by rw [h];exact h0),h]⟩
   rcases (by omega:k=0∨k=1) with rfl|rfl
   ·obtain⟨⟨E,e⟩,hE⟩:∃ z,removeD (clearK D p 0).1 p=z:=⟨_,rfl⟩
    have HX:=hnext E e (by rw [clearK_next (by omega) HZ.out];exact hE)
    have cx:wr.cell? ⟨g,0,none⟩=some (.func (.func 96) #[] #[.pointer (some ⟨bd,0,none⟩),.pointer (some ⟨bp,0,none⟩)]):=HBX.out.fns 0 _ (by rw [HF.out];rfl)
    have CX:Hid (Calls Tryz.prog 96 #[.pointer (some ⟨bd,0,none⟩),.pointer (some ⟨bp,0,none⟩)] wr fun r W'=>r=.returned (.int .i64 e)/\Aft w wr Sk P (m+0+1) E W'):=Lib.hid (by
     have:=cl1_any w wr Sk P (m+0) _ p HD.out HE.out (by have:=HM.out;omega) HP.out bd bp (HBX.out.cell (bd,.pointer (some ⟨P,0,none⟩)) (by rw [HL.out];simp)).1 (HBX.out.cell (bp,txt p) (by rw [HL.out];simp)).1
     rw [hE] at this
     exact this)
    clear hnext hE
    by_cases he0:e=0
    ·subst he0
     obtain⟨z1,z2⟩:=HX.out.1 rfl
     have Z1:=Lib.hid z1
     have Z2:=Lib.hid z2
     clear z1 z2
     repeat (first|(go_at_fn 96;refine CX.out.mono ?_;rintro r w1 ⟨rfl,ha⟩;simp only [];have HA:=Lib.hid (HN.out _ _ _ ha).1;clear ha)|go_skip|go_guarded|go_step|go_upon)
     exact⟨⟨0+1,by go_num,by omega,Z1.out,by rw [Z2.out];exact HA.out⟩,by simp [Go.RowKit.intOf]⟩
    ·have hne:(e != 0)=true:=by simpa using he0
     have HRe:=Lib.hid (HX.out.2 he0)
     repeat (first|(go_at_fn 96;refine CX.out.mono ?_;rintro r w1 ⟨rfl,ha⟩;simp only [];have HA:=Lib.hid (HN.out _ _ _ ha).2;clear ha)|go_skip|go_guarded|go_step|go_upon)
     go_ret
     rw [HRe.out]
     exact⟨rfl,HA.out.mono (by omega)⟩
   ·obtain⟨⟨E,e⟩,hE⟩:∃ z,flushD (clearK D p 1).1=z:=⟨_,rfl⟩
    have HX:=hnext E e (by rw [clearK_next (by omega) HZ.out];exact hE)
    have cx:wr.cell? ⟨g,1,none⟩=some (.func (.func 51) #[.pointer (some ⟨P,0,none⟩)] #[]):=HBX.out.fns 1 _ (by rw [HF.out];rfl)
    have CX:Hid (Calls Tryz.prog 51 #[.pointer (some ⟨P,0,none⟩)] wr fun r W'=>r=.returned (.int .i64 e)/\Aft w wr Sk P (m+1+1) E W'):=Lib.hid (by
     have:=HD.out.flush HE.out (by have:=HM.out;omega)
     rw [hE] at this
     exact this)
    clear hnext hE
    by_cases he0:e=0
    ·subst he0
     obtain⟨z1,z2⟩:=HX.out.1 rfl
     have Z1:=Lib.hid z1
     have Z2:=Lib.hid z2
     clear z1 z2
     repeat (first|(go_at_fn 51;refine CX.out.mono ?_;rintro r w1 ⟨rfl,ha⟩;simp only [];have HA:=Lib.hid (HN.out _ _ _ ha).1;clear ha)|go_skip|go_guarded|go_step|go_upon)
     exact⟨⟨1+1,by go_num,by omega,Z1.out,by rw [Z2.out];exact HA.out⟩,by simp [Go.RowKit.intOf]⟩
    ·have hne:(e != 0)=true:=by simpa using he0
     have HRe:=Lib.hid (HX.out.2 he0)
     repeat (first|(go_at_fn 51;refine CX.out.mono ?_;rintro r w1 ⟨rfl,ha⟩;simp only [];have HA:=Lib.hid (HN.out _ _ _ ha).2;clear ha)|go_skip|go_guarded|go_step|go_upon)
     go_ret
     rw [HRe.out]
     exact⟨rfl,HA.out.mono (by omega)⟩
  ·have hk4z:¬ (k:Int)<2:=by omega
   have HA:Hid (Aft w W S P (m+2) R.1 wr/\R.2=0):=Lib.hid (by
    obtain rfl:k=2:=by omega
    rw [<- HR.out]
    obtain⟨Sk,hd,hs,ho,_⟩:=hs
    exact⟨⟨Sk,hd,hs,ho⟩,HZ.out⟩)
   clear hs hk4
   repeat (first|go_skip|go_guarded|go_step|go_upon)
   go_ret
   exact⟨by rw [HA.out.2];rfl,HA.out.1⟩
end DG
end Go.Proofs.YtmohjalanhnhbaaGreatDoor
end

section
namespace Go.Proofs.YtmohjalanhnhbaaGreatDoor
open Go.RowKit Go.Lib Go.BigFrame
namespace DG
open OM TP TM DP DM TG TR FP
open _root_.Go.Proofs.YtmohjalanhnhbaaGreatDoor.ST (besideL save1 save2 save3 saveD clear2 clearD loadD)
theorem Aft.later {w W W' W2:World} {S:Nat->Prop} {P m:Nat} {D:Dk} (h:Aft w W S P m D W') (hb:Below W'.heap.size W' W2):Aft w W S P m D W2:=by
 obtain⟨S',hd,hs,ho⟩:=h
 exact⟨S',hd.below hb,hs,ho.thenBelow hb⟩
theorem cell_row1 {W:World} {b:Nat} {v:Value} {t:TypeId} (h:W.heap[b]?=some (.cells #[v] t (0,0))):W.cell? ⟨b,0,none⟩=some v:=by
 rw [cell_of_row W b 0 _ _ _ h];rfl
theorem old_row {W:World} {b:Nat} {o o2:Obj} (h:W.heap[b]?=some o2):(W.alloc o).heap[b]?=some o2:=(Below.heap_alloc W o b (Array.getElem?_eq_some_iff.1 h).1).trans h
theorem apart_new {W:World} {S:Nat->Prop} {P b:Nat} (h:P<W.heap.size/\∀ k,S k->k<W.heap.size) (hb:W.heap.size<=b):¬ S b/\b≠P :=
 ⟨fun hk=>by have:=h.2 b hk;omega,by have:=h.1;omega⟩
theorem save_any (w W:World) (S:Nat->Prop) (P m:Nat) (D:Dk) (p t:List UInt8) (h:DS w W S P m D) (he:NF.Env w) (hm:m<=99980) (hp:p.length+1<=maxLen) :
  Calls Tryz.prog 27 #[.pointer (some ⟨P,0,none⟩),txt p,txt t] W fun r W'=>r=.returned (.int .i64 (saveD D p t).2)/\Aft w W S P (m+4) (saveD D p t).1 W':=by
 obtain⟨X,hX,-⟩:=txt_of p
 obtain⟨T,hT,-⟩:=txt_of t
 obtain⟨B,hB,-⟩:=txt_of (besideL p)
 have CB:Hid (∀ V,Calls Tryz.prog 91 #[.string X] V fun r w'=>r=.returned (.string B)/\Below V.heap.size V w'):=Lib.hid (fun V=>by
  rw [<- hX,← hB]
  exact beside_any p V hp)
 obtain⟨R,hR⟩:∃ R,saveD D p t=R:=⟨_,rfl⟩
 have HU:Hid (∀ V g bd bb bt bp,Below W.heap.size W V->Boxes V S P g [(bd,.pointer (some ⟨P,0,none⟩)),(bb,.string B),(bt,.string T),(bp,.string X)] (saveF bd bb bt bp P)->Calls Tryz.prog 92 #[.slice (some ⟨g,0,none⟩) 4 4] V fun r W'=>r=.returned (.int .i64 R.2)/\Aft w W S P (m+4) R.1 W'):=Lib.hid (fun V g bd bb bt bp hV hb=>by
  rw [<- hX,← hT,← hB] at hb
  have:=untilS_any w V S P m g bd bb bt bp D p t (h.below hV) he hm hp hb
  rw [hR] at this
  exact this.mono fun r W' hh=>⟨hh.1,hh.2.under hV⟩)
 have HS:Hid (P<W.heap.size/\∀ k,S k->k<W.heap.size):=Lib.hid h.lt
 have q0:=old_row (o:=.cells #[.string T] 9) (old_row (o:=.cells #[.string X] 9) (heap_alloc_new W (.cells #[.pointer (some ⟨P,0,none⟩)] 29)))
 have q1:=old_row (o:=.cells #[.string T] 9) (heap_alloc_new (W.alloc (.cells #[.pointer (some ⟨P,0,none⟩)] 29)) (.cells #[.string X] 9))
 have q2:=heap_alloc_new ((W.alloc (.cells #[.pointer (some ⟨P,0,none⟩)] 29)).alloc (.cells #[.string X] 9)) (.cells #[.string T] 9)
 have b3:Below W.heap.size W (((W.alloc (.cells #[.pointer (some ⟨P,0,none⟩)] 29)).alloc (.cells #[.string X] 9)).alloc (.cells #[.string T] 9)) :=
  (((Below.refl _ _).alloc (Nat.le_refl _) _).alloc (by simp) _).alloc (by simp;omega) _
 rw [World.size_alloc] at q1
 rw [World.size_alloc,World.size_alloc] at q2
 have Q0:=Lib.hid q0
 have Q1:=Lib.hid q1
 have Q2:=Lib.hid q2
 have B3:=Lib.hid b3
 rw [hX,hT,hR]
 clear h he hm hp hX hT hB hR q0 q1 q2 b3
 go_enter Tryz.func27,Tryz.ntmps27
 repeat (first|(go_at_call 91;fail)|go_skip|go_guarded|go_step|go_upon)
 refine (CB.out _).mono ?_
 rintro r w1 ⟨rfl,hb⟩
 simp only []
 have k0:=old_row (o:=.cells #[.string B] 9) ((hb.block _ (Array.getElem?_eq_some_iff.1 Q0.out).1).trans Q0.out)
 have k1:=old_row (o:=.cells #[.string B] 9) ((hb.block _ (Array.getElem?_eq_some_iff.1 Q1.out).1).trans Q1.out)
 have k2:=old_row (o:=.cells #[.string B] 9) ((hb.block _ (Array.getElem?_eq_some_iff.1 Q2.out).1).trans Q2.out)
 have k3:=heap_alloc_new w1 (.cells #[.string B] 9)
 have b4:Below W.heap.size W (w1.alloc (.cells #[.string B] 9)):=(Below.trans B3.out (hb.mono B3.out.size)).alloc (Nat.le_trans B3.out.size hb.size) _
 have hz:W.heap.size+3<=w1.heap.size:=by
  have:=hb.size
  simp at this
  omega
 have HZ:=Lib.hid hz
 have K0:=Lib.hid k0
 have K1:=Lib.hid k1
 have K2:=Lib.hid k2
 have K3:=Lib.hid k3
 have B4:=Lib.hid b4
 have c0:=cell_row1 k0
 clear k0 k1 k2 k3 b4 hb Q0 Q1 Q2 hz
 repeat (first|(go_at_call 92;fail)|go_skip|go_guarded|go_step|go_upon)
 have hs4:(w1.alloc (.cells #[.string B] 9)).heap.size=w1.heap.size+1:=by simp
 refine (HU.out _ _ W.heap.size w1.heap.size (W.heap.size+1+1) (W.heap.size+1) (B4.out.alloc B4.out.size _) ?_).mono ?_
 ·refine⟨fun x hx=>?_,fun j v hv=>?_,by simp,?_,?_⟩
  ·have hz:=HZ.out
   simp only [List.mem_cons,List.not_mem_nil,or_false] at hx
   rcases hx with rfl|rfl|rfl|rfl
   ·exact⟨cell_row1 (old_row K0.out),by simp;omega,(apart_new HS.out (Nat.le_refl _)).1,(apart_new HS.out (Nat.le_refl _)).2⟩
   ·exact⟨cell_row1 (old_row K3.out),by simp;omega,(apart_new HS.out (by show W.heap.size<=w1.heap.size;omega)).1,(apart_new HS.out (by show W.heap.size<=w1.heap.size;omega)).2⟩
   ·exact⟨cell_row1 (old_row K2.out),by simp;omega,(apart_new HS.out (by show W.heap.size<=W.heap.size+1+1;omega)).1,(apart_new HS.out (by show W.heap.size<=W.heap.size+1+1;omega)).2⟩
   ·exact⟨cell_row1 (old_row K1.out),by simp;omega,(apart_new HS.out (by show W.heap.size<=W.heap.size+1;omega)).1,(apart_new HS.out (by show W.heap.size<=W.heap.size+1;omega)).2⟩
  ·have hn:=heap_alloc_new (w1.alloc (.cells #[.string B] 9)) (.cells (saveF W.heap.size w1.heap.size (W.heap.size+1+1) (W.heap.size+1) P).toArray 108)
   rw [hs4] at hn
   exact (cell_of_row _ _ j _ _ _ hn).trans (by rw [<- hv];simp)
  ·have hz:=HZ.out
   exact (apart_new HS.out (by omega)).1
  ·have hz:=HZ.out
   exact (apart_new HS.out (by omega)).2
 rintro r w2 ⟨rfl,ha⟩
 simp only []
 have HA:=Lib.hid ha
 clear ha
 repeat (first|go_skip|go_guarded|go_step|go_upon)
 go_ret
 exact⟨rfl,HA.out⟩
theorem clear_any (w W:World) (S:Nat->Prop) (P m:Nat) (D:Dk) (p:List UInt8) (h:DS w W S P m D) (he:NF.Env w) (hm:m<=99980) (hp:p.length+1<=maxLen) :
  Calls Tryz.prog 31 #[.pointer (some ⟨P,0,none⟩),txt p] W fun r W'=>r=.returned (.int .i64 (clearD D p).2)/\Aft w W S P (m+2) (clearD D p).1 W':=by
 obtain⟨X,hX,-⟩:=txt_of p
 obtain⟨⟨E,e⟩,hR⟩:∃ R,clear2 D p=R:=⟨_,rfl⟩
 have hcl:clearD D p=(E,if e=74 then 0 else e):=by unfold clearD;rw [hR]
 have HU:Hid (∀ V g bd bp,Below W.heap.size W V->Boxes V S P g [(bd,.pointer (some ⟨P,0,none⟩)),(bp,.string X)] (clearF bd bp P)->Calls Tryz.prog 92 #[.slice (some ⟨g,0,none⟩) 2 2] V fun r W'=>r=.returned (.int .i64 e)/\Aft w W S P (m+2) E W'):=Lib.hid (fun V g bd bp hV hb=>by
  rw [<- hX] at hb
  have:=untilC_any w V S P m g bd bp D p (h.below hV) he hm hp hb
  rw [hR] at this
  exact this.mono fun r W' hh=>⟨hh.1,hh.2.under hV⟩)
 have HS:Hid (P<W.heap.size/\∀ k,S k->k<W.heap.size):=Lib.hid h.lt
 have q0:=old_row (o:=.cells #[.string X] 9) (heap_alloc_new W (.cells #[.pointer (some ⟨P,0,none⟩)] 29))
 have q1:=heap_alloc_new (W.alloc (.cells #[.pointer (some ⟨P,0,none⟩)] 29)) (.cells #[.string X] 9)
 have b3:Below W.heap.size W ((W.alloc (.cells #[.pointer (some ⟨P,0,none⟩)] 29)).alloc (.cells #[.string X] 9)) :=
  ((Below.refl _ _).alloc (Nat.le_refl _) _).alloc (by simp) _
 rw [World.size_alloc] at q1
 have Q0:=Lib.hid q0
 have Q1:=Lib.hid q1
 have B3:=Lib.hid b3
 have c0:=cell_row1 q0
 obtain⟨e2,he2⟩:∃ e2,(if e=74 then 0 else e)=e2:=⟨_,rfl⟩
 have HE2:=Lib.hid he2
 rw [hX,hcl,he2]
 clear he2 h he hm hp hX hR hcl q0 q1 b3
 go_enter Tryz.func31,Tryz.ntmps31
 repeat (first|(go_at_call 92;fail)|go_skip|go_guarded|go_step|go_upon)
 have hs4:((W.alloc (.cells #[.pointer (some ⟨P,0,none⟩)] 29)).alloc (.cells #[.string X] 9)).heap.size=W.heap.size+1+1:=by simp
 refine (HU.out _ _ W.heap.size (W.heap.size+1) (B3.out.alloc B3.out.size _) ?_).mono ?_
 ·refine⟨fun x hx=>?_,fun j v hv=>?_,by simp,?_,?_⟩
  ·simp only [List.mem_cons,List.not_mem_nil,or_false] at hx
   rcases hx with rfl|rfl
   ·exact⟨cell_row1 (old_row Q0.out),by simp;omega,(apart_new HS.out (Nat.le_refl _)).1,(apart_new HS.out (Nat.le_refl _)).2⟩
   ·exact⟨cell_row1 (old_row Q1.out),by simp,(apart_new HS.out (by show W.heap.size<=W.heap.size+1;omega)).1,(apart_new HS.out (by show W.heap.size<=W.heap.size+1;omega)).2⟩
  ·have hn:=heap_alloc_new ((W.alloc (.cells #[.pointer (some ⟨P,0,none⟩)] 29)).alloc (.cells #[.string X] 9)) (.cells (clearF W.heap.size (W.heap.size+1) P).toArray 108)
   rw [hs4] at hn
   exact (cell_of_row _ _ j _ _ _ hn).trans (by rw [<- hv];simp)
  ·exact (apart_new HS.out (by omega)).1
  ·exact (apart_new HS.out (by omega)).2
 rintro r w2 ⟨rfl,ha⟩
 simp only []
 have HA:=Lib.hid ha
 clear ha
 by_cases h74:e=74
 ·subst h74
  have HE3:Hid (e2=0):=Lib.hid (by rw [<- HE2.out];rfl)
  repeat (first|go_skip|go_guarded|go_step|go_upon)
  go_ret
  exact⟨by rw [HE3.out];rfl,HA.out⟩
 ·have HE3:Hid (e2=e):=Lib.hid (by rw [<- HE2.out,if_neg h74])
  have hne:(e==74)=false:=by simpa using h74
  repeat (first|go_skip|go_guarded|go_step|go_upon)
  go_ret
  exact⟨by rw [HE3.out];rfl,HA.out⟩
theorem load_any (w W:World) (S:Nat->Prop) (P m:Nat) (D:Dk) (p:List UInt8) (h:DS w W S P m D) (he:NF.Env w) (hm:m<=99980) (hp:p.length<=maxLen) :
  Calls Tryz.prog 29 #[.pointer (some ⟨P,0,none⟩),txt p] W fun r W'=>r=.returned (.tuple #[txt (loadD D p).2.1,.bool (loadD D p).2.2.1,.int .i64 (loadD D p).2.2.2])/\Aft w W S P (m+1) (loadD D p).1 W':=by
 obtain⟨X,hX,-⟩:=txt_of p
 have CG:=Lib.hid (h.get he (by omega) p hp)
 obtain⟨Z,hZ⟩:∃ Z,DP.getD D p=Z:=⟨_,rfl⟩
 obtain⟨⟨F,Ft,Fb,Fe⟩,hF⟩:∃ F,loadD D p=F:=⟨_,rfl⟩
 have HF0:=hF
 unfold loadD at HF0
 rw [hF]
 rw [hZ] at CG HF0
 obtain⟨E,⟨np,nk,nd,nm⟩,⟨s1,s2,s3⟩,e⟩:=Z
 obtain⟨X1,hX1,_⟩:=txt_of np
 obtain⟨X2,hX2,_⟩:=txt_of nd
 unfold ndVal stampVal at CG
 simp only [Prod.mk.injEq] at CG HF0 ⊢
 rw [hX1,hX2,hX] at CG
 rw [hX]
 obtain⟨rfl,HF0⟩:=HF0
 have HR:Hid ((e=74->txt Ft=.string ⟨#[]⟩/\Fb=false/\Fe=0)/\(e≠74->e≠0->txt Ft=.string ⟨#[]⟩/\Fb=false/\Fe=e)/\(e=0->nk≠1->txt Ft=.string ⟨#[]⟩/\Fb=false/\Fe=73)/\(e=0->nk=1->txt Ft=.string X2/\Fb=true/\Fe=0)):=Lib.hid (by
  refine⟨fun h1=>?_,fun h1 h2=>?_,fun h1 h2=>?_,fun h1 h2=>?_⟩
  ·rw [if_pos h1] at HF0
   simp only [Prod.mk.injEq] at HF0
   obtain⟨rfl,rfl,rfl⟩:=HF0
   exact⟨rfl,rfl,rfl⟩
  ·rw [if_neg h1,if_pos h2] at HF0
   simp only [Prod.mk.injEq] at HF0
   obtain⟨rfl,rfl,rfl⟩:=HF0
   exact⟨rfl,rfl,rfl⟩
  ·rw [if_neg (by omega),if_neg (by omega),if_pos h2] at HF0
   simp only [Prod.mk.injEq] at HF0
   obtain⟨rfl,rfl,rfl⟩:=HF0
   exact⟨rfl,rfl,rfl⟩
  ·rw [if_neg (by omega),if_neg (by omega),if_neg (by omega)] at HF0
   simp only [Prod.mk.injEq] at HF0
   obtain⟨rfl,rfl,rfl⟩:=HF0
   exact⟨hX2,rfl,rfl⟩)
 clear h he hm hp hX hX1 hX2 hZ hF HF0
 go_enter Tryz.func29,Tryz.ntmps29
 repeat (first|(go_at_call 74;fail)|go_skip|go_guarded|go_step|go_upon)
 refine CG.out.mono ?_
 rintro r w2 ⟨rfl,ha⟩
 simp only []
 have HA:=Lib.hid ha
 clear ha
 by_cases h74:e=74
 ·obtain⟨z1,rfl,rfl⟩:=HR.out.1 h74
  have Z1:=Lib.hid z1
  subst h74
  clear z1
  repeat (first|go_skip|go_guarded|go_step|go_upon)
  go_ret3
  exact⟨by rw [Z1.out];first|done|rfl,HA.out.later (((Below.refl _ _).alloc (Nat.le_refl _) _).alloc (by simp) _)⟩
 ·have hne:(e==74)=false:=by simpa using h74
  by_cases h0:e=0
  ·subst h0
   by_cases hk:nk=1
   ·obtain⟨z1,rfl,rfl⟩:=HR.out.2.2.2 rfl hk
    have Z1:=Lib.hid z1
    subst hk
    clear z1
    repeat (first|go_skip|go_guarded|go_step|go_upon)
    go_ret3
    exact⟨by rw [Z1.out];first|done|rfl,HA.out.later (((Below.refl _ _).alloc (Nat.le_refl _) _).alloc (by simp) _)⟩
   ·obtain⟨z1,rfl,rfl⟩:=HR.out.2.2.1 rfl hk
    have Z1:=Lib.hid z1
    have hkn:(nk != 1)=true:=by simpa using hk
    clear z1
    repeat (first|go_skip|go_guarded|go_step|go_upon)
    go_ret3
    exact⟨by rw [Z1.out];first|done|rfl,HA.out.later (((Below.refl _ _).alloc (Nat.le_refl _) _).alloc (by simp) _)⟩
  ·obtain⟨z1,rfl,z3⟩:=HR.out.2.1 h74 h0
   have Z1:=Lib.hid z1
   have hkn:(e != 0)=true:=by simpa using h0
   subst z3
   clear z1
   repeat (first|go_skip|go_guarded|go_step|go_upon)
   go_ret3
   exact⟨by rw [Z1.out];first|done|rfl,HA.out.later (((Below.refl _ _).alloc (Nat.le_refl _) _).alloc (by simp) _)⟩
end DG
end Go.Proofs.YtmohjalanhnhbaaGreatDoor
end

section
namespace Go.Proofs.YtmohjalanhnhbaaGreatDoor
open Go.RowKit Go.Lib Go.BigFrame
namespace DG
open OM TP TM DP DM TG TR FP
open _root_.Go.Proofs.YtmohjalanhnhbaaGreatDoor.ST (besideL saveD clearD loadD)
def awD:Dk:=(saveD (newD []) [97] [120]).1
theorem aw_save:(saveD (newD []) [97] [120]).2=0:=by decide +kernel
theorem aw_load:(loadD awD [97]).2=([120],true,0):=by decide +kernel
theorem aw_steps:(loadD awD [97]).1.trace.length=5:=by decide +kernel
theorem DS.rebase {w w1 W:World} {S:Nat->Prop} {P m:Nat} {D:Dk} (h:DS w1 W S P m D) (hb:Below w.heap.size w w1):DS w W S P m D :=
 ⟨h.disk,fun k hk=>Nat.le_trans hb.size (h.lo k hk),Nat.le_trans hb.size h.pl,Below.trans hb (h.bel.mono hb.size),h.num⟩
theorem awakeS_any (w:World) (he:NF.Env w):Calls Tryz.prog 26 #[] w fun r w'=>r=.returned (.bool true)/\Below w.heap.size w w':=by
 have HE:=Lib.hid he
 have CN:Hid (Calls Tryz.prog 10 #[.slice none 0 0] w fun r w'=>∃ S P,r=.returned (.tuple #[.pointer (some ⟨P,0,none⟩),.int .i64 0])/\DS w w' S P 0 (newD [])):=Lib.hid (new_ds (t:=[]) he (TW.Wide.nil w) (by decide +kernel))
 have CB:Hid (∀ V,Calls Tryz.prog 91 #[.string ⟨#[97]⟩] V fun r w'=>r=.returned (.string ⟨#[97,126]⟩)/\Below V.heap.size V w'):=Lib.hid (fun V=>beside_any [97] V (by unfold maxLen;decide))
 clear he
 go_enter Tryz.func26,Tryz.ntmps26
 repeat (first|(go_at_call 10;fail)|go_skip|go_guarded|go_step|go_upon)
 refine CN.out.mono ?_
 rintro r w1 ⟨S,P,rfl,h1⟩
 simp only []
 have CS:Hid (Calls Tryz.prog 27 #[.pointer (some ⟨P,0,none⟩),.string ⟨#[97]⟩,.string ⟨#[120]⟩] w1 fun r W'=>r=.returned (.int .i64 0)/\Aft w w1 S P 4 awD W'):=Lib.hid (by
  have:=save_any w w1 S P 0 (newD []) [97] [120] h1 HE.out (by omega) (by unfold maxLen;decide)
  rw [aw_save] at this
  exact this)
 clear h1
 repeat (first|(go_at_call 27;fail)|go_skip|go_guarded|go_step|go_upon)
 refine CS.out.mono ?_
 rintro r w2 ⟨rfl,S2,h2,_,_⟩
 simp only []
 have hl:∃ D2,loadD awD [97]=(D2,([120],true,0))/\D2.trace.length=5:=⟨(loadD awD [97]).1,Prod.ext rfl aw_load,aw_steps⟩
 obtain⟨D2,hl1,hl2⟩:=hl
 have CL:Hid (Calls Tryz.prog 29 #[.pointer (some ⟨P,0,none⟩),.string ⟨#[97]⟩] w2 fun r W'=>r=.returned (.tuple #[.string ⟨#[120]⟩,.bool true,.int .i64 0])/\Aft w w2 S2 P 5 D2 W'):=Lib.hid (by
  have:=load_any w w2 S2 P 4 awD [97] h2 HE.out (by omega) (by unfold maxLen;decide)
  rw [hl1] at this
  exact this)
 clear h2 hl1
 repeat (first|(go_at_call 29;fail)|go_skip|go_guarded|go_step|go_upon)
 refine CL.out.mono ?_
 rintro r w3 ⟨rfl,S3,h3,_,_⟩
 simp only []
 have CT:=Lib.hid h3.steps
 rw [hl2] at CT
 have HB:=Lib.hid h3.bel
 clear h3 hl2
 repeat (first|(go_at_call 14;refine CT.out.mono ?_;rintro r w4 ⟨rfl,rfl⟩;simp only [])|(go_at_call 91;refine (CB.out _).mono ?_;rintro r w5 ⟨rfl,hb5⟩;simp only [];have HB5:=Lib.hid (Below.trans HB.out (hb5.mono HB.out.size));clear hb5)|go_skip|go_guarded|go_step|go_upon)
 go_ret
 exact⟨rfl,HB5.out⟩
end DG
end Go.Proofs.YtmohjalanhnhbaaGreatDoor
end
