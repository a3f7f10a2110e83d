import Derived.Test.YtkmcjededpamnaaGreatDoorMg1
import Derived.Below
import Derived.RowKit
import Derived.Laws.AppendOwn
import Derived.Maps.AppendAt
import Derived.Test.YtkmcjededpamnaaGreatDoorChecked
import Derived.WalkKit
import Derived.WalkMore
import Derived.IntWalk
import Derived.Deep.QuietTactic
import Derived.BigQuiet
import Derived.Lib.Hide
import Derived.Test.YtkmcjededpamnaaGreatDoorShelf
import Derived.Laws.Cover4
import Derived.Lib.OthersKept
import Derived.Deep.LoopGhost
import Derived.Shelf.Unicode.ValidAny
import Derived.Shelf.Strings.PiecesUse
set_option linter.all false
set_option maxRecDepth 100000
set_option maxHeartbeats 0
namespace Go.Proofs.YtkmcjededpamnaaGreatDoor
open List(take_add_one)
section
open Go.RowKit
namespace FP
structure Out(S:Nat->Prop)(w w':World):Prop where
 os:w'.os=w.os
 tape:w'.tape=w.tape
 output:w'.output=w.output
 size:w.heap.size<=w'.heap.size
 block:∀ k,k<w.heap.size->¬ S k->w'.heap[k]?=w.heap[k]?
theorem Out.refl(S:Nat->Prop)(w:World):Out S w w:=⟨rfl,rfl,rfl,Nat.le_refl _,fun _ _ _=>rfl⟩
theorem Out.mono{S T:Nat->Prop}{w w':World}(h:Out S w w')(hs:∀ k,k<w.heap.size->S k->T k):Out T w w' :=
 ⟨h.os,h.tape,h.output,h.size,fun k hk hn=>h.block k hk (fun hS=>hn (hs k hk hS))⟩
theorem Out.then{S T:Nat->Prop}{a b c:World}(h:Out S a b)(k:Out T b c)(hs:∀ j,j<a.heap.size->T j->S j):Out S a c :=
 ⟨k.os.trans h.os,k.tape.trans h.tape,k.output.trans h.output,Nat.le_trans h.size k.size,fun j hj hn =>
  (k.block j (Nat.lt_of_lt_of_le hj h.size) (fun hT=>hn (hs j hj hT))).trans (h.block j hj hn)⟩
theorem Out.of_below{B:Nat}{w w':World}(h:Below B w w'):Out (fun k=>B<=k) w w':=⟨h.os,h.tape,h.output,h.size,fun k _ hn=>h.block k (by omega)⟩
theorem Out.below{S:Nat->Prop}{B:Nat}{w w':World}(h:Out S w w')(hs:∀ k,k<B->k<w.heap.size->¬ S k)(hB:B<=w.heap.size):Below B w w' :=
 ⟨h.os,h.tape,h.output,h.size,fun k hk=>h.block k (by omega) (hs k hk (by omega))⟩
theorem Out.thenBelow{S:Nat->Prop}{a b c:World}(h:Out S a b)(k:Below b.heap.size b c):Out S a c :=
 h.then (Out.of_below k) (fun j hj hT=>absurd hT (by have:=h.size;omega))
theorem Out.alloc{S:Nat->Prop}{a w:World}(h:Out S a w)(o:Obj):Out S a (w.alloc o) :=
 h.thenBelow ((Below.refl _ _).alloc (Nat.le_refl _) o)
theorem Out.drew{S:Nat->Prop}{a w:World}(h:Out S a w):Out S a w.drew:=⟨h.os,h.tape,h.output,h.size,h.block⟩
theorem Out.setCell{S:Nat->Prop}{a w:World}(h:Out S a w){p:Addr}(hp:p.block<a.heap.size->S p.block)(u:Value):Out S a (w.setCell p u) :=
 h.then (T:=fun k=>k=p.block) ⟨rfl,rfl,rfl,by simp[World.setCell],fun k _ hk=>Below.heap_setCell _ _ _ _ hk⟩ (fun j hj hT=>by subst hT;exact hp hj)
theorem Out.grown{S:Nat->Prop}{a w w':World}{row:Option Nat}(h:Out S a w)(hg:w.grownBy w' row)(hr:∀ k,row=some k->k<a.heap.size->S k):Out S a w' :=
 h.then (T:=fun k=>row=some k) ⟨hg.os,hg.tape,hg.output,hg.size,fun k hk hn=>hg.block k hk (fun e=>hn e.symm)⟩ (fun j hj hT=>hr j hT hj)
theorem Out.cell{S:Nat->Prop}{w w':World}(h:Out S w w'){p:Addr}(hp:p.block<w.heap.size)(hn:¬ S p.block):w'.cell? p=w.cell? p:=World.cell?_of_block (w:=w) (h.block p.block hp hn)
theorem Out.row{S:Nat->Prop}{w w':World}(h:Out S w w'){k:Nat}{o:Obj}(ho:w.heap[k]?=some o)(hn:¬ S k):w'.heap[k]?=some o :=
 (h.block k (by
  rcases Nat.lt_or_ge k w.heap.size with h1|h1
  ·exact h1
  ·rw[Array.getElem?_eq_none h1]at ho;cases ho) hn).trans ho
theorem Out.owns{S:Nat->Prop}{w w':World}(h:Out S w w'){base:Nat}{e:TypeId}{size n:Nat}{v:Value}{xs:List Value}(ho:w.ownsRow base e size v n xs)(hn:∀ g,v.ownBlock=some g->¬ S g):w'.ownsRow base e size v n xs:=by
 obtain⟨h1,h2|⟨g,cap,ar,rfl,hg,hr,h3⟩⟩:=ho
 ·exact⟨h1,.inl h2⟩
 ·exact⟨h1,.inr ⟨g,cap,ar,rfl,hg,h.row hr (hn g rfl),h3⟩⟩
end FP
end
section
open Go.RowKit Go.Lib
namespace DM
open OM TP TM DP FP
def ptrV(adr:Int->Nat)(k:Int):Value:=if k=0 then .pointer none else .pointer (some ⟨adr k,0,none⟩)
def enCells(adr:Int->Nat)(e:Nd):List Value:=[txt e.path,ptrV adr e.kind]
def ensC(adr:Int->Nat)(ns:List Nd):List Value:=ns.flatMap (enCells adr)
def enV(adr:Int->Nat)(e:Nd):Value:=.agg #[txt e.path,ptrV adr e.kind]
theorem ptr_pos(adr:Int->Nat){k:Int}(h:k≠0):ptrV adr k=.pointer (some ⟨adr k,0,none⟩):=if_neg h
structure EnAt(W:World)(adr:Int->Nat)(g o:Nat)(e:Nd):Prop where
 p:W.cell? ⟨g,o,none⟩=some (txt e.path)
 i:W.cell? ⟨g,o+1,none⟩=some (ptrV adr e.kind)
def LayE(W:World)(adr:Int->Nat)(ao:Option Addr)(ns:List Nd):Prop :=
 0<ns.length->∃ g o,ao=some ⟨g,o,none⟩/\g<W.heap.size/\∀(k:Nat) (e:Nd),ns[k]?=some e->EnAt W adr g (o+k*2) e
theorem EnAt.same{W W':World}{adr:Int->Nat}{g o:Nat}{e:Nd}(h:EnAt W adr g o e)(hb:W'.heap[g]?=W.heap[g]?):EnAt W' adr g o e :=
 ⟨(World.cell?_of_block (a:=⟨g,o,none⟩) hb).trans h.p,(World.cell?_of_block (a:=⟨g,o+1,none⟩) hb).trans h.i⟩
theorem LayE.same{W W':World}{adr:Int->Nat}{ao:Option Addr}{ns:List Nd}(h:LayE W adr ao ns)(hs:W.heap.size<=W'.heap.size)(hb:∀ a,ao=some a->a.block<W.heap.size->W'.heap[a.block]?=W.heap[a.block]?):LayE W' adr ao ns:=fun h0=>by
 obtain⟨g,o,rfl,aa,hc⟩:=h h0;exact⟨g,o,rfl,by omega,fun k e hk=>(hc k e hk).same (hb _ rfl aa)⟩
theorem LayE.below{W W':World}{adr:Int->Nat}{ao:Option Addr}{ns:List Nd}(h:LayE W adr ao ns)(hb:Below W.heap.size W W'):LayE W' adr ao ns :=
 h.same hb.size (fun a _ ha=>hb.block _ ha)
theorem LayE.nil(W:World)(adr:Int->Nat)(ao:Option Addr):LayE W adr ao []:=fun h=>absurd h (by simp)
theorem ens_len(adr:Int->Nat)(ns:List Nd):(ensC adr ns).length=ns.length*2:=by
 induction ns with
 | nil=>rfl
 | cons n ns ih =>
  show(enCells adr n++ensC adr ns).length=_;rw[List.length_append,ih,List.length_cons];show 2+_=_;omega
theorem ens_app(adr:Int->Nat)(a b:List Nd):ensC adr (a++b)=ensC adr a++ensC adr b:=by unfold ensC;rw[List.flatMap_append]
theorem ens_snoc(adr:Int->Nat)(a:List Nd)(e:Nd):ensC adr (a++[e])=ensC adr a++enCells adr e:=by rw[ens_app];rfl
theorem ens_one(adr:Int->Nat)(ns:List Nd):∀ u∈ensC adr ns,u.oneCell'=true:=by
 intro u hu;obtain⟨e,_,he⟩:=List.mem_flatMap.1 hu;unfold enCells at he;rcases List.mem_cons.1 he with rfl|he
 ·rfl
 ·rcases List.mem_cons.1 he with rfl|he
  ·unfold ptrV;split<;>rfl
  ·cases he
theorem ens_at(adr:Int->Nat):∀(ns:List Nd) (k:Nat) (e:Nd),ns[k]?=some e->(ensC adr ns)[k*2]?=some (txt e.path)/\(ensC adr ns)[k*2+1]?=some (ptrV adr e.kind)
 | [],k,n,h=>by simp at h
 | x::ns,0,n,h=>by
  simp at h;subst h;exact⟨rfl,rfl⟩
 | x::ns,k+1,n,h=>by
  rw[List.getElem?_cons_succ]at h;have ih:=ens_at adr ns k n h
  have e:∀ j,(ensC adr (x::ns))[(k+1)*2+j]?=(ensC adr ns)[k*2+j]?:=fun j=>by
   show(enCells adr x++ensC adr ns)[_]?=_;rw[List.getElem?_append_right (by show 2<=_;omega)];congr 1;show _-2=_;omega
  exact⟨(e 0).trans ih.1,(e 1).trans ih.2⟩
theorem ens_take(adr:Int->Nat)(ns:List Nd)(k:Nat):ensC adr (ns.take k)=(ensC adr ns).take (k*2):=by
 induction ns generalizing k with
 | nil=>simp[ensC]
 | cons n ns ih =>
  cases k with
  | zero=>simp[ensC]
  | succ k =>
   rw[List.take_succ_cons];show enCells adr n++ensC adr (ns.take k)=(enCells adr n++ensC adr ns).take _;rw[ih,List.take_append,show(enCells adr n).length=2 from rfl,List.take_of_length_le (l:=enCells adr n) (by rw[show(enCells adr n).length=2 from rfl];omega),show(k+1)*2-2=k*2 by omega]
theorem ens_drop(adr:Int->Nat)(ns:List Nd)(k:Nat):ensC adr (ns.drop k)=(ensC adr ns).drop (k*2):=by
 induction ns generalizing k with
 | nil=>simp[ensC]
 | cons n ns ih =>
  cases k with
  | zero=>simp[ensC]
  | succ k =>
   rw[List.drop_succ_cons];show ensC adr (ns.drop k)=(enCells adr n++ensC adr ns).drop _;rw[ih,List.drop_append,show(enCells adr n).length=2 from rfl,show(enCells adr n).drop ((k+1)*2)=[] from List.drop_eq_nil_of_le (by rw[show(enCells adr n).length=2 from rfl];omega),show(k+1)*2-2=k*2 by omega];rfl
theorem ens_adr{adr adr':Int->Nat}{ns:List Nd}(h:∀ e∈ns,adr' e.kind=adr e.kind):ensC adr' ns=ensC adr ns:=by
 unfold ensC
 induction ns with
 | nil=>rfl
 | cons n ns ih =>
  rw[List.flatMap_cons,List.flatMap_cons,ih (fun e he=>h e (List.mem_cons_of_mem _ he))];unfold enCells ptrV;rw[h n (List.mem_cons_self ..)]
theorem LayE.adr{W:World}{adr adr':Int->Nat}{ao:Option Addr}{ns:List Nd}(h:LayE W adr ao ns)(ha:∀ e∈ns,adr' e.kind=adr e.kind):LayE W adr' ao ns:=fun h0=>by
 obtain⟨g,o,e1,aa,hc⟩:=h h0;refine⟨g,o,e1,aa,fun k e hk=>⟨(hc k e hk).p,?_⟩⟩;have:=(hc k e hk).i;unfold ptrV at this ⊢;rw[ha e (List.mem_of_getElem? hk)];exact this
abbrev OwnE(W:World)(adr:Int->Nat)(v:Value)(ns:List Nd):Prop:=W.ownsRow 0 125 2 v ns.length (ensC adr ns)
theorem layE_own{w:World}{adr:Int->Nat}{v:Value}{ns:List Nd}(h:OwnE w adr v ns):∃ ao c,v=.slice ao ns.length c/\LayE w adr ao ns/\ns.length<=c/\(ao=none->c=0)/\(∀ a,ao=some a->v.ownBlock=some a.block):=by
 obtain⟨ao,c,rfl,hx⟩:=owns_view h;refine⟨ao,c,rfl,fun h0=>?_,?_,?_,fun a ha=>by subst ha;rfl⟩
 ·obtain⟨g,rfl,hg,_,hc⟩:=hx h0;refine⟨g,0,rfl,hg,fun k n hk=>?_⟩;have bb:=(List.getElem?_eq_some_iff.1 hk).1;obtain⟨a,b⟩:=ens_at adr ns k n hk;rw[Nat.zero_add];exact⟨(hc _ (by omega)).trans a,(hc _ (by omega)).trans b⟩
 ·rcases h.2 with ⟨e,hn⟩|⟨g,cap,ar,e,_,_,h1,_⟩
  ·rw[hn];exact Nat.zero_le _
  ·injection e with _ _ e3;omega
 ·intro e;subst e;rcases h.2 with ⟨e,hn⟩|⟨g,cap,ar,e,_⟩
  ·injection e with _ _ e3
  ·injection e with e1;cases e1
def inoC(k:Int)(i:Ino):Array Value:=#[.int .i64 k,.int .i64 i.time,.int .i64 i.kind,.int .i64 i.mode,txt i.data,.bool i.dirty]
def InoAt(W:World)(g:Nat)(k:Int)(i:Ino):Prop:=W.heap[g]?=some (.cells (inoC k i) 173 (0,0))
def LayI(W:World)(adr:Int->Nat)(ns:List Nd)(I:List Ino):Prop:=∀ e∈ns,e.kind≠0->InoAt W (adr e.kind) e.kind (inoOf I e.kind)
theorem LayI.below{W W':World}{adr:Int->Nat}{ns:List Nd}{I:List Ino}(h:LayI W adr ns I)(hb:Below W.heap.size W W'):LayI W' adr ns I:=fun e he hk=>by
 have:=h e he hk;unfold InoAt at this ⊢;rw[hb.block _ (Array.getElem?_eq_some_iff.1 this).1];exact this
theorem LayI.sub{W:World}{adr:Int->Nat}{ns ms:List Nd}{I:List Ino}(h:LayI W adr ns I)(hs:∀ e∈ms,e∈ns):LayI W adr ms I:=fun e he hk=>h e (hs e he) hk
theorem InoAt.cells{W:World}{g:Nat}{k:Int}{i:Ino}(h:InoAt W g k i) :
  W.cell? ⟨g,0,none⟩=some (.int .i64 k)/\W.cell? ⟨g,1,none⟩=some (.int .i64 i.time)/\W.cell? ⟨g,2,none⟩=some (.int .i64 i.kind)/\W.cell? ⟨g,3,none⟩=some (.int .i64 i.mode)/\W.cell? ⟨g,4,none⟩=some (txt i.data)/\W.cell? ⟨g,5,none⟩=some (.bool i.dirty) :=
 ⟨by rw[cell_of_row W g 0 _ _ _ h];rfl,by rw[cell_of_row W g 1 _ _ _ h];rfl,by rw[cell_of_row W g 2 _ _ _ h];rfl,by rw[cell_of_row W g 3 _ _ _ h];rfl,by rw[cell_of_row W g 4 _ _ _ h];rfl,by rw[cell_of_row W g 5 _ _ _ h];rfl⟩
end DM
end
section
open Go.RowKit Go.Lib
namespace NO
theorem u8_lt(c:UInt8):(c.toNat:Int)<256:=by have:=c.toNat_lt;omega
theorem rank_any(c:UInt8)(w:World) :
  Calls Tryz.prog 190 #[.int .u8 c.toNat] w fun e w'=>e=.returned (.int .i64 (NP.rk c))/\w=w':=by
 have aW:=u8_lt c;have h0:(0:Int)<=(c.toNat:Int):=by omega
 by_cases h:c=47
 ·subst h;go_enter Tryz.func190,Tryz.ntmps190;go_wp2;go_ret;exact⟨rfl,rfl⟩
 ·have hb:((c.toNat:Int)==47)=false:=by
   apply beq_eq_false_iff_ne.2;intro e;apply h;apply UInt8.toNat_inj.1;show c.toNat=47;omega
  have e:NP.rk c=c.toNat+1:=by unfold NP.rk;rw[if_neg h]
  have E:=hid e;clear e;clear h;go_enter Tryz.func190,Tryz.ntmps190;go_wp2;go_ret;exact⟨by rw[E.out];rfl,rfl⟩
theorem cmp_any(x y:Int)(w:World) :
  Calls Tryz.prog 189 #[.int .i64 x,.int .i64 y] w fun e w'=>e=.returned (.int .i64 (if x<y then -1 else if y<x then 1 else 0))/\w=w':=by
 by_cases h1:x<y
 ·rw[if_pos h1];go_enter Tryz.func189,Tryz.ntmps189;go_wp2;go_ret;exact⟨rfl,rfl⟩
 ·rw[if_neg h1];by_cases h2:y<x
  ·rw[if_pos h2];go_enter Tryz.func189,Tryz.ntmps189;go_wp2;go_ret;exact⟨rfl,rfl⟩
  ·rw[if_neg h2];go_enter Tryz.func189,Tryz.ntmps189;go_wp2;go_ret;exact⟨rfl,rfl⟩
theorem cmp_nat(x y:Nat)(w:World) :
  Calls Tryz.prog 189 #[.int .i64 x,.int .i64 y] w fun e w'=>e=.returned (.int .i64 (NP.cmpN x y))/\w=w' :=
 (cmp_any x y w).mono fun e w' ⟨he,hw⟩=>⟨by
  rw[he];unfold NP.cmpN;by_cases h1:x<y
  ·rw[if_pos h1,if_pos (by omega)]
  ·by_cases h2:y<x
   ·rw[if_neg h1,if_pos h2,if_neg (by omega),if_pos (by omega)]
   ·rw[if_neg h1,if_neg h2,if_neg (by omega),if_neg (by omega)],hw⟩
theorem get_data(s:ByteArray)(i:Nat)(h:i<s.size):s.data.toList[i]?=some s[i]:=data_getElem? s i h
theorem take_succ_eq{a b:List UInt8}{i:Nat}{x:UInt8}(h:a.take i=b.take i)(ha:a[i]?=some x)(hb:b[i]?=some x):a.take (i+1)=b.take (i+1):=by
 rw[take_add_one,take_add_one,h,ha,hb]
def Drawn(w w':World):Prop:=∃ n,w'=w.drewN n
theorem Drawn.refl(w:World):Drawn w w:=⟨0,rfl⟩
theorem Drawn.drewN{w w':World}(h:Drawn w w')(n:Nat):Drawn w (w'.drewN n):=by obtain⟨k,rfl⟩:=h;exact⟨k+n,by simp⟩
theorem order_any(a b:ByteArray)(w:World)(ha:a.size<=maxLen)(hb:b.size<=maxLen) :
  Calls Tryz.prog 152 #[.string a,.string b] w fun e w'=>e=.returned (.int .i64 (NP.ordL a.data.toList b.data.toList))/\Drawn w w':=by
 unfold maxLen at ha hb;have aE:=hid (size_eq a);have a8:=hid (size_eq b);by_cases hab:a.size<=b.size
 all_goals
  obtain⟨m,hm⟩:∃ m,m=min a.size b.size:=⟨_,rfl⟩;have aY:m<=a.size:=by omega
  have aX:m<=b.size:=by omega
  have bh:a.size<=m\/b.size<=m:=by omega
  have Hm:=hid hm;clear hm;go_enter Tryz.func152,Tryz.ntmps152;go_wp2
  go_loopw [11] (fun i wr=>∃ k:Nat,k<=m/\i=.int .i64 k/\a.data.toList.take k=b.data.toList.take k/\Drawn w wr) (fun i _=>m-(RowKit.intOf i).toNat)
  case atStart=>exact⟨0,Nat.zero_le _,rfl,rfl,Drawn.refl _⟩
  case round =>
   obtain⟨k,hk,rfl,ht,a4⟩:=hrel;have Ht:=hid ht;have ay:=hid a4;clear ht a4;by_cases aa:k<m
   ·have aZ:(k:Int)<a.size:=by omega
    have bg:(k:Int)<b.size:=by omega
    have aB:k<a.size:=by omega
    have a9:k<b.size:=by omega
    by_cases hxy:a[k]=b[k]
    ·have hd:(((a[k].toNat:Nat):Int) != ((b[k].toNat:Nat):Int))=false:=by rw[hxy];simp
     have aI:=hid hxy;clear hxy;go_wp2;go_quiet (fail);go_wp2;go_roundw
     case rel =>
      exact⟨k+1,by omega,by go_num,take_succ_eq Ht.out (get_data a k aB) (by rw[aI.out];exact get_data b k a9),ay.out.drewN _⟩
     case measure=>simp[RowKit.intOf];omega
    ·have ap:((a[k].toNat:Nat):Int)≠((b[k].toNat:Nat):Int):=fun e=>hxy (UInt8.toNat_inj.1 (by omega));have hd:(((a[k].toNat:Nat):Int) != ((b[k].toNat:Nat):Int))=true:=by rw[bne_iff_ne];exact ap
     have He:=hid (NP.ordL_miss Ht.out (get_data a k aB) (get_data b k a9) hxy);clear hxy ap;go_wp2;go_quiet (fail);rename_i nq
     go_wp2_with fail
     have aD:=hid (ay.out.drewN nq);generalize wr.drewN nq=w2 at aD ⊢;go_quiet (first|(go_at_call 190;exact Calls.quiet_of_same ((rank_any _ _).mono fun e w' h=>⟨h.1,h.2.symm⟩))|(go_at_call 189;exact Calls.quiet_of_same ((cmp_nat _ _ _).mono fun e w' h=>⟨h.1,h.2.symm⟩)));go_wp2;go_ret;exact⟨by rw[He.out];rfl,aD.out.drewN _⟩
   ·have be:¬(k:Int)<m:=by omega
    have ek:k=m:=by omega
    subst ek;have He:=hid (NP.ordL_end (a:=a.data.toList) (b:=b.data.toList) (by rw[<- aE.out,← a8.out];exact Hm.out) Ht.out)
    first
     | (have bd:¬(k:Int)<a.size:=by omega
        go_wp2_with (go_at_call 189;refine(cmp_nat _ _ _).mono ?_;rintro e w' ⟨rfl,rfl⟩))
     | (have bc:¬(k:Int)<b.size:=by omega
        go_wp2_with (go_at_call 189;refine(cmp_nat _ _ _).mono ?_;rintro e w' ⟨rfl,rfl⟩))
    go_ret;exact⟨by rw[He.out,← aE.out,← a8.out];rfl,ay.out⟩
end NO
end
section
open Go.RowKit Go.Lib
namespace NA
def slz:ByteArray:=⟨#[47,0]⟩
theorem encode_big(r:Int)(h0:2048<=r)(h1:r<=1114111)(hv:Lib.validRune r=true):3<=(Utf8.encode r).size:=by
 unfold Utf8.encode;unfold Lib.validRune at hv
 have ah:Utf8.valid r=true:=by
  unfold Utf8.valid;simp only[decide_eq_true_eq,Bool.or_eq_true,Bool.and_eq_true]at hv ⊢;omega
 simp only[ah,if_true];rw[if_neg (by omega),if_neg (by omega)];split<;>simp[ByteArray.size]
theorem idx_empty(c:Int)(w:World):Calls Tryz.prog 275 #[.string ByteArray.empty,.int .u8 c] w fun e w'=>e=.returned (.int .i64 (-1))/\w'=w:=Tryz.strings_IndexByte _ _ _
def End1(w:World)(e:Ending)(w':World):Prop:=e=.returned (.int .i64 (-1))/\Below w.heap.size w w'
theorem rune_err(w:World) :
  Calls Tryz.prog 258 #[.string slz,.int .i32 65533] w (End1 w):=by
 have ag:slz.size=2:=rfl;go_enter Tryz.func258,Tryz.ntmps258;go_wp2
 go_loopg [5,6] 2 (fun g _ _ wx=>∃ i:Nat,i+g=2/\wx=w.iter slz i)
 case atStart=>exact⟨0,by omega,rfl⟩
 case round =>
  obtain⟨i,am,rfl⟩:=hrel
  match gk,am with
  | 0,am =>
   obtain rfl:i=2:=by omega
   have ac:=run_next_end (P:=Tryz.prog) w slz 2;go_wp2;go_ret;exact⟨rfl,(Below.refl _ _).alloc (Nat.le_refl _) _⟩
  | 1,am =>
   obtain rfl:i=1:=by omega
   have ac:=fun ty=>run_next_ascii (P:=Tryz.prog) w slz 1 ty (by decide) (by decide);go_wp2
   go_roundg 0
   case measure=>omega
   case rel=>exact⟨2,by omega,rfl⟩
  | 2,am =>
   obtain rfl:i=0:=by omega
   have ac:=fun ty=>run_next_ascii (P:=Tryz.prog) w slz 0 ty (by decide) (by decide);go_wp2
   go_roundg 1
   case measure=>omega
   case rel=>exact⟨1,by omega,rfl⟩
theorem rune_big(r:Int)(w:World)(h0:2048<=r)(h1:r<=1114111)(h2:r≠65533) :
  Calls Tryz.prog 258 #[.string slz,.int .i32 r] w fun e w'=>e=.returned (.int .i64 (-1))/\w=w':=by
 have hb:(r==65533)=false:=by simpa using h2
 have aN:decide (r<128)=false:=by simp;omega
 clear h2;go_enter Tryz.func258,Tryz.ntmps258
 go_wp2_with fail
 refine(Tryz.utf8_ValidRune _ _).mono ?_;rintro e w' ⟨rfl,rfl⟩;cases hv:Lib.validRune r
 ·go_wp2;go_ret;exact⟨rfl,rfl⟩
 ·have ag:slz.size=2:=rfl;obtain⟨t,ht⟩:∃ t,Utf8.encode r=t:=⟨_,rfl⟩;have h3:3<=t.size:=by rw[<- ht];exact encode_big r h0 h1 hv
  have h4:t.size<=4:=by rw[<- ht];exact encode_size_le r
  clear hv;go_wp2
  go_step3
  go_wp2
  go_loopg [9] 1 (fun _ i wx=>i=.int .i64 (t.size-1)/\wx=w')
  case atStart=>exact⟨rfl,rfl⟩
  case round =>
   obtain⟨rfl,rfl⟩:=hrel;go_wp2;try rw[Exit.noGoto_ret]
   go_ret;exact⟨rfl,rfl⟩
theorem encode_two(r:Int)(h0:128<=r)(h1:r<2048):∃ x y:UInt8,Utf8.encode r=⟨#[x,y]⟩/\y≠0:=by
 unfold Utf8.encode
 have ah:Utf8.valid r=true:=by
  unfold Utf8.valid;simp only[decide_eq_true_eq,Bool.or_eq_true,Bool.and_eq_true];omega
 simp only[ah,if_true];rw[if_neg (by omega),if_pos (by omega)];refine⟨_,_,rfl,?_⟩;intro h;have:=congrArg UInt8.toNat h;simp at this;omega
theorem rune_two(r:Int)(w:World)(h0:128<=r)(h1:r<2048) :
  Calls Tryz.prog 258 #[.string slz,.int .i32 r] w fun e w'=>e=.returned (.int .i64 (-1))/\∃ n,w'=w.drewN n:=by
 have hb:(r==65533)=false:=by simp;omega
 have aN:decide (r<128)=false:=by simp;omega
 obtain⟨x,y,ht,hy⟩:=encode_two r h0 h1
 have ap:(((0:Int)) != ((y.toNat:Nat):Int))=true:=by
  rw[bne_iff_ne];intro e;exact hy (UInt8.toNat_inj.1 (by show y.toNat=0;omega))
 clear hy;go_enter Tryz.func258,Tryz.ntmps258
 go_wp2_with fail
 refine(Tryz.utf8_ValidRune _ _).mono ?_;rintro e w' ⟨rfl,rfl⟩;have hv:Lib.validRune r=true:=by unfold Lib.validRune;simp;omega
 rw[hv];clear hv;go_wp2
 go_step3
 go_wp2
 go_loopg [9] 1 (fun _ i wx=>i=.int .i64 1/\wx=w')
 case atStart=>exact⟨rfl,rfl⟩
 case round =>
  obtain⟨rfl,rfl⟩:=hrel;unfold slz;clear ht;have hd:((((⟨#[47,0]⟩:ByteArray)[1]'(by decide)).toNat:Int) != (((⟨#[x,y]⟩:ByteArray)[1]'(by show 1<2;omega)).toNat:Int))=true:=ap;clear ap;go_wp2
  go_step3
  go_wp2;go_quiet (fail);rename_i nq
  go_wp2_with fail
  generalize hw2:wr.drewN nq=w2;have aV:=hid hw2;clear hw2;go_quiet ((go_at_call 275;exact Calls.quiet_of_same (idx_empty _ _)));go_wp2;rw[Exit.noGoto_ret];go_wp2;rw[Exit.noGoto_ret];go_ret;refine⟨rfl,?_⟩;rw[<- aV.out,World.drewN_drewN];exact⟨_,rfl⟩
theorem below_drewN{B:Nat}{a w:World}(h:Below B a w)(n:Nat):Below B a (w.drewN n):=⟨h.os,h.tape,h.output,h.size,h.block⟩
theorem rune_none(r:Int)(w:World)(h0:128<=r)(h1:r<=1114111) :
  Calls Tryz.prog 258 #[.string slz,.int .i32 r] w (End1 w):=by
 by_cases h2:r=65533
 ·subst h2;exact rune_err w
 ·by_cases h3:r<2048
  ·refine(rune_two r w h0 h3).mono ?_;rintro e w' ⟨rfl,n,rfl⟩;exact⟨rfl,below_drewN (Below.refl _ _) n⟩
  ·refine(rune_big r w (by omega) h1 h2).mono ?_;rintro e w' ⟨rfl,rfl⟩;exact⟨rfl,Below.refl _ _⟩
theorem high_of(x:Nat)(h:x / 64=2):128<=x:=by omega
theorem decode_high(s:ByteArray)(pos:Nat)(h:pos<s.size)(hb:128<=(s.get! pos).toNat) :
  128<=(Utf8.decode s pos).1/\(Utf8.decode s pos).1<=1114111/\1<=(Utf8.decode s pos).2/\pos+(Utf8.decode s pos).2<=s.size/\∀ k,k<(Utf8.decode s pos).2->128<=(s.get! (pos+k)).toNat:=by
 have l0:=(s.get! pos).toNat_lt;have l1:=(s.get! (pos+1)).toNat_lt;have l2:=(s.get! (pos+2)).toNat_lt;have l3:=(s.get! (pos+3)).toNat_lt;have k0:128<=(s.get! (pos+0)).toNat:=hb
 have one:∀ k,k<1->128<=(s.get! (pos+k)).toNat:=by
  intro k hk;have e:k=0:=by omega
  rw[e];exact k0
 unfold Utf8.decode Utf8.runeError Utf8.valid;simp only[Nat.add_zero,Bool.and_eq_true,Bool.or_eq_true,beq_iff_eq,decide_eq_true_eq,ge_iff_le];rw[if_neg (by omega)];split
 ·rename_i h1;have k1:=high_of _ h1.2.2;split
  ·refine⟨by simp only;omega,by simp only;omega,by simp only;omega,by simp only;omega,?_⟩;intro k hk;simp only at hk;rcases (by omega:k=0\/k=1)with rfl|rfl<;>assumption
  ·exact⟨by simp only;omega,by simp only;omega,by simp only;omega,by simp only;omega,one⟩
 ·split
  ·rename_i h2;have k1:=high_of _ h2.1.2.2;have k2:=high_of _ h2.2.2;split
   ·refine⟨by simp only;omega,by simp only;omega,by simp only;omega,by simp only;omega,?_⟩;intro k hk;simp only at hk;rcases (by omega:k=0\/k=1\/k=2)with rfl|rfl|rfl<;>assumption
   ·exact⟨by simp only;omega,by simp only;omega,by simp only;omega,by simp only;omega,one⟩
  ·split
   ·rename_i h3;have k1:=high_of _ h3.1.1.2.2;have k2:=high_of _ h3.1.2.2;have k3:=high_of _ h3.2.2;split
    ·refine⟨by simp only;omega,by simp only;omega,by simp only;omega,by simp only;omega,?_⟩;intro k hk;simp only at hk;rcases (by omega:k=0\/k=1\/k=2\/k=3)with rfl|rfl|rfl|rfl<;>assumption
    ·exact⟨by simp only;omega,by simp only;omega,by simp only;omega,by simp only;omega,one⟩
   ·exact⟨by simp only;omega,by simp only;omega,by simp only;omega,by simp only;omega,one⟩
theorem noAny_wide{s:ByteArray}{i:Nat}:∀ n,(∀ k,k<n->128<=(s.get! (i+k)).toNat)->i+n<=s.size->Lib.NoAny s.data.toList [47,0] i->Lib.NoAny s.data.toList [47,0] (i+n)
 | 0,_,_,h=>h
 | n+1,hk,hn,h=>by
  have h1:=noAny_wide n (fun k hk'=>hk k (by omega)) (by omega) h;have hx:=hk n (by omega);refine h1.succ (x:=s.get! (i+n)) ?_ ?_
  ·show s.data.toList[i+n]?=_;rw[data_getElem? s (i+n) (by omega),Utf8W.get!_of_lt s (i+n) (by omega)]
  ·have e1:s.get! (i+n)≠47:=by intro e;rw[e]at hx;simp at hx
   have e2:s.get! (i+n)≠0:=by intro e;rw[e]at hx;simp at hx
   simp[e1,e2]
def IdxPost(s:ByteArray)(w:World)(e:Ending)(w':World):Prop:=e=.returned (.int .i64 (Lib.indexAny s.data.toList [47,0]))/\Below w.heap.size w w'
theorem ascii_idx(x:UInt8)(w:World)(hx:x.toNat<128) :
  Calls Tryz.prog 258 #[.string slz,.int .i32 x.toNat] w fun e w'=>e=.returned (.int .i64 (Lib.indexByte [47,0] x))/\w=w':=by
 refine(Tryz.strings_IndexRune_ascii slz (x.toNat:Int) w (by omega) (by omega)).mono ?_;rintro e w' ⟨rfl,rfl⟩;exact⟨by simp[slz],rfl⟩
theorem any_short(s:ByteArray)(w:World)(h8:s.size<=8) :
  Calls Tryz.prog 239 #[.string s,.string slz] w (IdxPost s w):=by
 have aS:slz.toList.isEmpty=false:=by rw[toList_data];rfl
 have ag:slz.size=2:=rfl;have aJ:decide ((8:Int)<(s.size:Int))=false:=decide_eq_false (by omega);go_enter Tryz.func239,Tryz.ntmps239
 go_wp2_with (go_at_call 259;refine(Tryz.strings_shouldUseASCIISet _ _).mono ?_;rintro e w' ⟨rfl,hw⟩;rw[hw,aJ])
 go_loopg [9,10] s.size (fun g _ _ wx=>∃ i:Nat,i<=s.size/\s.size<=i+g/\wx.heap[w.heap.size]?=some (.stringIter s i)/\Below w.heap.size w wx/\Lib.NoAny s.data.toList [47,0] i)
 case atStart=>exact⟨0,by omega,by omega,World.iter_heap _ _ _,(Below.refl _ _).alloc (Nat.le_refl _) _,Lib.NoAny.zero _ _⟩
 case round =>
  obtain⟨i,hi,am,aA,hb,a6⟩:=hrel;have HN:=hid a6;have HI:=hid aA;have HB:=hid hb;clear a6 aA hb;by_cases aa:i<s.size
  ·obtain⟨g',rfl⟩:∃ g',gk=g'+1:=⟨gk-1,by omega⟩;obtain⟨W2,a0⟩:∃ W2,wr.iterAt w.heap.size s (i+(Utf8.decode s i).2)=W2:=⟨_,rfl⟩;have ai:=hid (Lib.iterAt_heap wr w.heap.size s i (i+(Utf8.decode s i).2) HI.out);have ak:=hid (Lib.below_iterAt HB.out (Nat.le_refl w.heap.size) s (i+(Utf8.decode s i).2));rw[a0]at ai ak;have ac:∀ ty,(Instr.next (.pointer (some ⟨w.heap.size,0,none⟩)) true ty).run Tryz.prog wr=.ok (.tuple #[.bool true,.int .i64 i,.int .i32 (Utf8.decode s i).1]) W2:=fun ty=>by rw[<- a0];exact Lib.run_next_any_at wr w.heap.size s i ty HI.out aa
   clear a0;by_cases hasc:(s[i]'aa).toNat<128
   ·have aj:=decode_ascii s i aa hasc;rw[aj]at ai ac;simp only at ai ac;obtain⟨x,hx⟩:∃ x:UInt8,s[i]'aa=x:=⟨_,rfl⟩;have a5:Hid (s.data.toList[i]?=some x):=hid (by rw[<- hx];exact data_getElem? s i aa);rw[hx]at ac hasc;clear hx aj;have ab:=Lib.contains_iff_indexByte [47,0] x;have cR:=fun W=>ascii_idx x W hasc;cases hin:([47,0]:List UInt8).contains x
    ·rw[hin]at ab;have aL:¬((0:Int)<=Lib.indexByte [47,0] x):=of_decide_eq_false ab.symm;clear ab;have a1:=hid hin;clear hin
     go_wp2_with (go_at_call 258;refine(cR _).mono ?_;rintro e w' ⟨rfl,rfl⟩)
     go_roundg g'
     case measure=>omega
     case rel=>exact⟨i+1,by omega,by omega,ai.out,ak.out,HN.out.succ a5.out a1.out⟩
    ·rw[hin]at ab;have aQ:(0:Int)<=Lib.indexByte [47,0] x:=of_decide_eq_true ab.symm;clear ab;have a1:=hid hin;clear hin
     go_wp2_with (go_at_call 258;refine(cR _).mono ?_;rintro e w' ⟨rfl,rfl⟩)
     go_ret;exact⟨by rw[Lib.indexAny_hit HN.out a5.out a1.out];rfl,ak.out⟩
   ·have hx:128<=(s.get! i).toNat:=by rw[Utf8W.get!_of_lt s i aa];omega
    obtain⟨d1,d2,d3,d4,d5⟩:=decode_high s i aa hx;have aF:=hid (noAny_wide _ d5 d4 HN.out);generalize (Utf8.decode s i).1=r at ac d1 d2;generalize (Utf8.decode s i).2=k at ac d3 d4 d5 ai aF;clear d5 hx hasc;have cR:=fun W=>rune_none (r:Int) W (by omega) (by omega)
    go_wp2_with fail
    refine(cR _).mono ?_;rintro e w' ⟨rfl,ax⟩;have aO:=hid (ak.out.trans (ax.mono ak.out.size))
    have aU:Hid (w'.heap[w.heap.size]?=some (.stringIter s (i+k))):=hid (by
     have h1:=ai.out;have az:w.heap.size<W2.heap.size:=(Array.getElem?_eq_some_iff.1 h1).1
     rw[ax.block _ az];exact h1)
    clear ax;go_wp2
    go_roundg g'
    case measure=>omega
    case rel=>exact⟨i+k,by omega,by omega,aU.out,aO.out,aF.out⟩
  ·obtain rfl:i=s.size:=by omega
   have ac:=fun ty=>Lib.run_next_end_at (P:=Tryz.prog) wr w.heap.size s s.size ty HI.out aa;go_wp2;go_ret;exact⟨by rw[Lib.indexAny_none (by rw[<- size_eq];exact HN.out)];rfl,HB.out⟩
end NA
end
section
open Go.RowKit Go.Lib
namespace NF
structure Env(w:World):Prop where
 tabs:Lib.Utf8Tabs (Tryz.laysValid_ren.g 3) (Tryz.laysValid_ren.g 4) w
 maxl:∃ m,w.cell? ⟨0,0,none⟩=some (.int .i64 m)
theorem Env.below{w w':World}(h:Env w)(hb:Below w.heap.size w w'):Env w':=by
 refine⟨Utf8Tabs_below h.tabs hb,?_⟩;obtain⟨m,hm⟩:=h.maxl;exact⟨m,by rw[hb.cell (World.block_lt_of_cell? _ _ hm)];exact hm⟩
def Bad(s:ByteArray):Prop:=s.toList=[]\/64<s.size\/s.toList=[46]\/s.toList=[46,46]
theorem bad_name{s:ByteArray}(h:Bad s):NP.nameL s.data.toList=false:=by
 unfold Bad at h;rw[toList_data,size_eq]at h;unfold NP.nameL;rcases h with h|h|h|h
 ·rw[h];rfl
 ·rw[decide_eq_false (p:=s.data.toList.length<=64) (by omega)];simp
 ·rw[h];rfl
 ·rw[h];rfl
theorem good_name{s:ByteArray}(h1:s.toList.isEmpty=false)(h2:(s.size:Int)<=64)(h3:(s.toList==[46])=false)(h4:(s.toList==[46,46])=false) :
  NP.nameL s.data.toList=(Lib.validD s.data.toList&&NP.noneOf s.data.toList):=by
 rw[toList_data]at h1 h3 h4;rw[size_eq]at h2;unfold NP.nameL;have e1:s.data.toList≠[]:=by intro e;rw[e]at h1;simp at h1
 have e2:s.data.toList.length<=64:=by omega
 have e3:s.data.toList≠[46]:=by intro e;rw[e]at h3;simp at h3
 have e4:s.data.toList≠[46,46]:=by intro e;rw[e]at h4;simp at h4
 rw[decide_eq_true e1,decide_eq_true e2,decide_eq_true e3,decide_eq_true e4];simp
theorem noneOf_eq(l:List UInt8):NP.noneOf l=!(Lib.containsAny l [47,0]):=by
 unfold NP.noneOf Lib.containsAny
 have:(l.contains 47||l.contains 0)=decide (0<=Lib.indexAny l [47,0]):=by
  induction l with
  | nil=>rfl
  | cons b l ih =>
   have hg:=Lib.indexAny_ge [47,0] l;rw[Lib.indexAny];by_cases hb:([47,0]:List UInt8).contains b=true
   ·rw[if_pos hb];have:b=47\/b=0:=by simpa using hb
    rcases this with rfl|rfl<;>simp
   ·rw[if_neg hb];have hn:¬(b=47)/\¬(b=0):=by simpa using hb
    have e1:(b::l).contains 47=l.contains 47:=by simp[Ne.symm hn.1]
    have e2:(b::l).contains 0=l.contains 0:=by simp[Ne.symm hn.2]
    rw[e1,e2,ih];by_cases hm:Lib.indexAny l [47,0]=-1
    ·rw[hm];rfl
    ·rw[if_neg (by simpa using hm)];rw[decide_eq_true (by omega),decide_eq_true (by omega)]
 rw[this]
theorem valid_any(s:ByteArray)(w:World)(he:Env w)(hs:s.size<=9223372036854775807) :
  Calls Tryz.prog 202 #[.string s] w fun e w'=>e=.returned (.bool (Lib.validD s.data.toList))/\Below w.heap.size w w' :=
 Any.utf8_ValidString Tryz.laysValid s w hs he.tabs
theorem idx_any(s:ByteArray)(w:World)(h:s.size<=64) :
  Calls Tryz.prog 239 #[.string s,.string NA.slz] w (NA.IdxPost s w):=by
 by_cases h8:s.size<=8
 ·exact NA.any_short s w h8
 ·have hz:(Tryz.prog.info? 296).map (fun i=>(i.zero,i.size))=some (some (.agg (Array.replicate 256 (.bool false))),256):=by kernel_rfl
  refine(Any.strings_IndexAny_long Tryz.lays153 (zero_of_info hz).1 (zero_of_info hz).2 s NA.slz w (by decide) (by omega) (by omega) (by decide) ?_).mono ?_
  ·intro j b hj
   match j with
   | 0=>simp[NA.slz]at hj;subst hj;decide
   | 1=>simp[NA.slz]at hj;subst hj;decide
   | j+2=>simp[NA.slz]at hj
  ·rintro e w' ⟨rfl,rfl⟩;exact⟨rfl,((Below.refl _ _).alloc (Nat.le_refl _) _).alloc (by simp) _⟩
theorem has_any(s:ByteArray)(w:World)(h:s.size<=64) :
  Calls Tryz.prog 203 #[.string s,.string NA.slz] w fun e w'=>e=.returned (.bool (Lib.containsAny s.data.toList [47,0]))/\Below w.heap.size w w':=by
 have c:=idx_any s w h;unfold Lib.containsAny;go_enter Tryz.func203,Tryz.ntmps203
 go_wp2_with fail
 refine c.mono ?_;rintro e w' ⟨rfl,hb⟩;go_wp2;go_ret;exact⟨rfl,hb⟩
theorem name_any(s:ByteArray)(w:World)(he:Env w)(hs:s.size<=maxLen) :
  Calls Tryz.prog 169 #[.string s] w fun e w'=>e=.returned (.bool (NP.nameL s.data.toList))/\Below w.heap.size w w':=by
 unfold maxLen at hs;have cV:=valid_any s w he hs;go_enter Tryz.func169,Tryz.ntmps169
 go_wp2_with fail
 ·have h:s.toList=[]:=by assumption
  go_ret;exact⟨by rw[bad_name (.inl h)];rfl,Below.refl _ _⟩
 ·have h:s.toList=[46]:=by assumption
  go_ret;exact⟨by rw[bad_name (.inr (.inr (.inl h)))];rfl,Below.refl _ _⟩
 ·rename_i h
  have hb:Bad s:=by
   unfold Bad;rcases h with ((h|h)|h)|h
   ·exact .inl (by simpa using h)
   ·exact .inr (.inl (by omega))
   ·exact .inr (.inr (.inl (by simpa using h)))
   ·exact .inr (.inr (.inr (by simpa using h)))
  go_ret;exact⟨by rw[bad_name hb];rfl,Below.refl _ _⟩
 ·have h:((s.toList.isEmpty=false/\(s.size:Int)<=64)/\(s.toList==[46])=false)/\(s.toList==[46,46])=false:=by assumption
  obtain⟨⟨⟨h1,h2⟩,h3⟩,h4⟩:=h;have Hg:=hid (good_name h1 h2 h3 h4);have ag:s.size<=64:=by omega
  clear h1 h3 h4;refine cV.mono ?_;rintro e w1 ⟨rfl,hb⟩;cases hv:Lib.validD s.data.toList
  ·have Hv:=hid hv;clear hv;go_wp2;go_ret;exact⟨by rw[Hg.out,Hv.out];rfl,hb⟩
  ·have Hv:=hid hv;clear hv;have c:=has_any s w1 ag;clear cV
   go_wp2_with fail
   refine c.mono ?_;rintro e w2 ⟨rfl,aq⟩;go_wp2;go_ret;exact⟨by rw[Hg.out,Hv.out,noneOf_eq];rfl,hb.trans (aq.mono hb.size)⟩
 ·have h:(64:Int)<s.size:=by assumption
  go_ret;exact⟨by rw[bad_name (.inr (.inl (by omega)))];rfl,Below.refl _ _⟩
theorem all_nil(a:Option Addr)(c:Nat)(w:World) :
  Calls Tryz.prog 121 #[.slice a 0 c] w fun e w'=>e=.returned (.bool true)/\w=w':=by
 go_enter Tryz.func121,Tryz.ntmps121;go_wp2
 go_loop [7] (fun i=>i=.int .i64 0) (fun _=>0)
 case atStart=>rfl
 case round =>
  subst hrel;go_wp2;go_ret;exact⟨rfl,rfl⟩
theorem all_snoc{xs:List ByteArray}{k:Nat}{x:ByteArray}(h:NP.allL ((xs.take k).map (·.data.toList))=true)(hx:xs[k]?=some x)(hn:NP.nameL x.data.toList=true) :
  NP.allL ((xs.take (k+1)).map (·.data.toList))=true:=by
 rw[take_add_one,hx];unfold NP.allL at h ⊢;simp only[Option.toList_some,List.map_append,List.map_cons,List.map_nil,List.all_append,List.all_cons,List.all_nil,h,hn,Bool.and_self]
theorem all_miss{xs:List ByteArray}{k:Nat}{x:ByteArray}(hx:xs[k]?=some x)(hn:NP.nameL x.data.toList=false):NP.allL (xs.map (·.data.toList))=false:=by
 unfold NP.allL;rw[List.all_eq_false];exact⟨x.data.toList,List.mem_map.2 ⟨x,List.mem_of_getElem? hx,rfl⟩,by rw[hn];simp⟩
theorem all_any(bk o c:Nat)(xs:List ByteArray)(w:World)(he:Env w)(hcells:∀(j:Nat) x,xs[j]?=some x->w.cell? ⟨bk,o+j,none⟩=some (.string x))
  (hbk:bk<w.heap.size) (ag:∀ x∈xs,x.size<=maxLen) (hlen:xs.length<=maxLen) :
  Calls Tryz.prog 121 #[.slice (some ⟨bk,o,none⟩) xs.length c] w fun e w'=>e=.returned (.bool (NP.allL (xs.map (·.data.toList))))/\Below w.heap.size w w':=by
 have aT:=hid ag;have Hc:=hid hcells;have He:=hid he;clear ag hcells he;unfold maxLen at hlen;go_enter Tryz.func121,Tryz.ntmps121;go_wp2
 go_loopw [7] (fun i wr=>∃ k:Nat,k<=xs.length/\i=.int .i64 k/\NP.allL ((xs.take k).map (·.data.toList))=true/\Below w.heap.size w wr) (fun i _=>xs.length-(RowKit.intOf i).toNat)
 case atStart=>exact⟨0,Nat.zero_le _,rfl,rfl,Below.refl _ _⟩
 case round =>
  obtain⟨k,hk,rfl,ha,hb⟩:=hrel;have Ha:=hid ha;have Hb:=hid hb;clear ha hb;by_cases aa:k<xs.length
  ·obtain⟨x,hx⟩:∃ x,xs[k]?=some x:=⟨xs[k],List.getElem?_eq_getElem aa⟩;have Hx:=hid hx;have hz:(k:Int)<xs.length:=by omega
   have al:wr.cell? ⟨bk,o+k,none⟩=some (.string x):=by
    rw[Hb.out.cell (p:=⟨bk,o+k,none⟩) hbk];exact Hc.out k x hx
   have cN:=name_any x wr (He.out.below Hb.out) (aT.out x (List.mem_of_getElem? hx));clear hx
   go_wp2_with fail
   refine cN.mono ?_;rintro e w2 ⟨rfl,aq⟩;have aG:=hid (Hb.out.trans (aq.mono Hb.out.size));clear aq cN al;cases hn:NP.nameL x.data.toList
   ·have Hn:=hid hn;clear hn;go_wp2;go_ret;exact⟨by rw[all_miss Hx.out Hn.out];rfl,aG.out⟩
   ·have Hn:=hid hn;clear hn;go_wp2;go_roundw
    case rel=>exact⟨k+1,by omega,by go_num,all_snoc Ha.out Hx.out Hn.out,aG.out⟩
    case measure=>simp[RowKit.intOf];omega
  ·have hz:¬(k:Int)<xs.length:=by omega
   have ek:k=xs.length:=by omega
   have aK:=hid ek;clear ek;go_wp2;go_ret;exact⟨by have:=Ha.out;rw[aK.out,List.take_length]at this;rw[this];rfl,Hb.out⟩
def slash:ByteArray:=⟨#[47]⟩
theorem splitB_le(sep:ByteArray):∀(k:Nat) (s x:ByteArray),x∈Lib.splitB sep 0 k s->x.size<=s.size
 | 0,s,x,h=>by simp[Lib.splitB]at h;subst h;exact Nat.le_refl _
 | k+1,s,x,h=>by
  unfold Lib.splitB at h;split at h
  ·simp at h;subst h;exact Nat.le_refl _
  ·rcases List.mem_cons.1 h with rfl|h
   ·rw[ByteArray.size_extract];omega
   ·have:=splitB_le sep k _ x h;rw[ByteArray.size_extract]at this;omega
theorem count_any(s:ByteArray)(w:World) :
  Calls Tryz.prog 120 #[.string s,.string ⟨#[47]⟩] w fun e w'=>e=.returned (.int .i64 (s.data.toList.count 47:Nat))/\w=w':=by
 refine(Tryz.strings_Count_one s 47 w).mono ?_;rintro e w' ⟨rfl,rfl⟩;exact⟨rfl,rfl⟩
structure Lies(bk:Nat)(xs:List ByteArray)(w:World):Prop where
 cells:∀(j:Nat) x,xs[j]?=some x->w.cell? ⟨bk,0+j,none⟩=some (.string x)
 block:bk<w.heap.size
theorem split_any(s:ByteArray)(w:World)(he:Env w)(hs:s.size<=400) :
  Calls Tryz.prog 122 #[.string s,.string ⟨#[47]⟩] w fun e w'=>∃ xs:List ByteArray,e=.returned (.slice (some ⟨w.heap.size,0,none⟩) xs.length xs.length) /\
   xs.map (·.data.toList)=Lib.split s.data.toList [47]/\(∀ x∈xs,x.size<=s.size)/\xs.length=s.data.toList.count 47+1/\Lies w.heap.size xs w'/\Below w.heap.size w w':=by
 obtain⟨m,hm⟩:=he.maxl;refine(Tryz.strings_Split s ⟨#[47]⟩ m w (by omega) hm (by decide)).mono ?_;rintro e w' ⟨rfl,rfl⟩;have hl:(Lib.splitB ⟨#[47]⟩ 0 (Lib.countB s ⟨#[47]⟩) s).length=Lib.countB s ⟨#[47]⟩+1:=Lib.splitB_all _ (by decide) 0 _ s rfl;have hc:Lib.countB s ⟨#[47]⟩=s.data.toList.count 47:=Lib.count_one 47 s.data.toList;exact⟨Lib.splitB ⟨#[47]⟩ 0 (Lib.countB s ⟨#[47]⟩) s,by rw[hl],by rw[Lib.splitB_data];rfl,fun x hx=>splitB_le _ _ _ _ hx,by rw[hl,hc],⟨pieces_cell w _ 9,pieces_block w _⟩,(Below.refl _ _).alloc (Nat.le_refl _) _⟩
theorem path_parts{s:ByteArray}(h1:s.size<=400)(h2:s.data.toList.count 47<16):NP.pathL s.data.toList=NP.allL (Lib.split s.data.toList [47]):=by
 rw[size_eq]at h1;unfold NP.pathL;rw[decide_eq_true h1,decide_eq_true h2];simp
theorem path_long{s:ByteArray}(h1:400<s.size):NP.pathL s.data.toList=false:=by
 rw[size_eq]at h1;unfold NP.pathL;rw[decide_eq_false (by omega)];simp
theorem path_deep{s:ByteArray}(h1:16<=s.data.toList.count 47):NP.pathL s.data.toList=false:=by
 unfold NP.pathL;rw[decide_eq_false (p:=s.data.toList.count 47<16) (by omega)];simp
theorem path_any(s:ByteArray)(w:World)(he:Env w)(hs:s.size<=maxLen) :
  Calls Tryz.prog 60 #[.string s] w fun e w'=>e=.returned (.bool (NP.pathL s.data.toList))/\Below w.heap.size w w':=by
 unfold maxLen at hs;have He:=hid he;clear he;by_cases h4:s.size<=400
 ·have hz:¬(400:Int)<s.size:=by omega
  have hd:decide ((400:Int)<s.size)=false:=decide_eq_false hz;have cC:=count_any s w;by_cases h16:s.data.toList.count 47<16
  ·have Hp:=hid (path_parts h4 h16);have ad:¬(16:Int)<=(s.data.toList.count 47:Nat):=by omega
   have cS:=split_any s w He.out h4;generalize s.data.toList.count 47=n at cC h16 ad cS;go_enter Tryz.func60,Tryz.ntmps60
   go_wp2_with fail
   refine cC.mono ?_;rintro e w1 ⟨rfl,rfl⟩
   go_wp2_with fail
   refine cS.mono ?_;rintro e w1 ⟨xs,rfl,aH,a7,aP,aw,a3⟩;have Hx:=hid aH;clear aH cC cS;have cA:=all_any w.heap.size 0 xs.length xs w1 (He.out.below a3) aw.cells aw.block (fun x hx=>by have:=a7 x hx;unfold maxLen;omega) (by unfold maxLen;omega);have aC:=hid a3;clear a3 a7 aw aP
   go_wp2_with fail
   refine cA.mono ?_;rintro e w2 ⟨rfl,hb⟩;have Hb:=hid (aC.out.trans (hb.mono aC.out.size));clear hb cA;go_wp2;go_ret;exact⟨by rw[Hp.out,← Hx.out];rfl,Hb.out⟩
  ·have Hp:=hid (path_deep (s:=s) (by omega));have ad:(16:Int)<=(s.data.toList.count 47:Nat):=by omega
   generalize s.data.toList.count 47=n at cC h16 ad;go_enter Tryz.func60,Tryz.ntmps60
   go_wp2_with fail
   refine cC.mono ?_;rintro e w1 ⟨rfl,rfl⟩;go_wp2;go_ret;exact⟨by rw[Hp.out];rfl,Below.refl _ _⟩
 ·have Hp:=hid (path_long (s:=s) (by omega));have hz:(400:Int)<s.size:=by omega
  go_enter Tryz.func60,Tryz.ntmps60;go_wp2;go_ret;exact⟨by rw[Hp.out];rfl,Below.refl _ _⟩
end NF
end
section
open Go.RowKit Go.Lib
namespace NI
open NF
theorem cut_any(s p:ByteArray)(w:World) :
  Calls Tryz.prog 160 #[.string s,.string p] w fun e w'=>∃ t:ByteArray,e=.returned (.tuple #[.string t,.bool (Lib.hasPrefix s.data.toList p.data.toList)])/\t.data.toList=Lib.trimPrefix s.data.toList p.data.toList/\w=w':=by
 refine(Tryz.strings_CutPrefix s p w).mono ?_;rintro e w' ⟨rfl,rfl⟩;exact⟨_,rfl,by simp,rfl⟩
theorem within_no{p q:List UInt8}(h:NP.pathL p=false):NP.withinL p q=false:=by unfold NP.withinL;rw[h];rfl
theorem within_pre{p q:List UInt8}(h:Lib.hasPrefix p q=false):NP.withinL p q=false:=by unfold NP.withinL;rw[h];simp
theorem within_yes{p q t:List UInt8}(h1:NP.pathL p=true)(h2:Lib.hasPrefix p q=true)(ht:t=Lib.trimPrefix p q):NP.withinL p q=NP.restOk q t:=by
 unfold NP.withinL;rw[h1,h2,ht];unfold Lib.trimPrefix;rw[if_pos h2];simp
theorem within_any(p q:ByteArray)(w:World)(he:Env w)(hp:p.size<=maxLen) :
  Calls Tryz.prog 109 #[.string p,.string q] w fun e w'=>e=.returned (.bool (NP.withinL p.data.toList q.data.toList))/\Below w.heap.size w w':=by
 have cP:=path_any p w he hp;unfold maxLen at hp;go_enter Tryz.func109,Tryz.ntmps109
 go_wp2_with fail
 refine cP.mono ?_;rintro e w1 ⟨rfl,hb⟩;have Hb:=hid hb;clear hb cP he;cases hv:NP.pathL p.data.toList
 ·have H:=hid (within_no (q:=q.data.toList) hv);clear hv;go_wp2;go_ret;exact⟨by rw[H.out];rfl,Hb.out⟩
 ·have Hv:=hid hv;clear hv;have cC:=cut_any p q w1
  go_wp2_with fail
  refine cC.mono ?_;rintro e w2 ⟨t,rfl,ht,rfl⟩;have Ht:=hid ht;clear cC ht;cases hh:Lib.hasPrefix p.data.toList q.data.toList
  ·have H:=hid (within_pre hh);clear hh;go_wp2;go_ret;exact⟨by rw[H.out];rfl,Hb.out⟩
  ·have H:=hid (within_yes Hv.out hh Ht.out);clear hh;by_cases hq0:q.toList=[]
   ·have a2:=hid hq0;have aR:q.toList.isEmpty=true:=by rw[hq0];rfl
    clear hq0;go_wp2;go_ret;refine⟨?_,Hb.out⟩;have e:q.data.toList=[]:=by rw[<- toList_data];exact a2.out
    rw[H.out];unfold NP.restOk;rw[e];rfl
   ·have a2:=hid hq0;have aR:q.toList.isEmpty=false:=by simpa using hq0
    clear hq0;by_cases ht0:t.toList=[]
    ·have au:=hid ht0;have aM:t.toList.isEmpty=true:=by rw[ht0];rfl
     clear ht0;go_wp2;go_ret;refine⟨?_,Hb.out⟩;have e:t.data.toList=[]:=by rw[<- toList_data];exact au.out
     rw[H.out];unfold NP.restOk;rw[e];simp
    ·have au:=hid ht0;have aM:t.toList.isEmpty=false:=by simpa using ht0
     have hz:0<t.size:=by
      rw[size_eq,← toList_data];exact List.length_pos_iff.2 ht0
     have bf:(0:Int)<t.size:=by omega
     clear ht0;have Hh:Hid (t.data.toList.head?=some t[0]):=hid (by rw[List.head?_eq_getElem?];exact data_getElem? t 0 hz)
     have av:Hid (NP.restOk q.data.toList t.data.toList=(((t[0].toNat:Nat):Int)==47)):=hid (by
      unfold NP.restOk;have e1:q.data.toList≠[]:=by rw[<- toList_data];exact a2.out
      have e2:t.data.toList≠[]:=by rw[<- toList_data];exact au.out
      rw[Hh.out,decide_eq_false e1,decide_eq_false e2,Bool.false_or,Bool.false_or,Bool.eq_iff_iff];simp only[decide_eq_true_eq,Option.some.injEq,beq_iff_eq];constructor
      ·intro h;rw[h];rfl
      ·intro h;apply UInt8.toNat_inj.1;show _=47;omega)
     go_wp2;go_ret;exact⟨by rw[H.out,av.out];rfl,Hb.out⟩
end NI
namespace NC
open NF NI
theorem path_short{l:List UInt8}(h:NP.pathL l=true):l.length<=400:=by
 unfold NP.pathL at h;simp only[Bool.and_eq_true,decide_eq_true_eq]at h;exact h.1.1
def TextPost(l:List UInt8)(w:World)(e:Ending)(w':World):Prop:=∃ t:ByteArray,e=.returned (.string t)/\t.data.toList=l/\Below w.heap.size w w'
theorem extract_to(s:ByteArray)(i:Nat):(s.extract 0 i).data.toList=s.data.toList.take i:=Lib.extract_from_zero s i
theorem last_any(s:ByteArray)(w:World)(hs:s.size<=400) :
  Calls Tryz.prog 171 #[.string s,.int .u8 47] w fun e w'=>e=.returned (.int .i64 (Lib.lastIndexByte s 47))/\w=w':=by
 refine(Tryz.strings_LastIndexByte s 47 (by omega) w).mono ?_;rintro e w' ⟨rfl,rfl⟩;exact⟨rfl,rfl⟩
theorem parent_any(s:ByteArray)(w:World)(he:Env w)(hs:s.size<=maxLen) :
  Calls Tryz.prog 124 #[.string s] w (TextPost (NP.parentL s.data.toList) w):=by
 have cP:=path_any s w he hs;clear he;cases hp:NP.pathL s.data.toList
 ·have Hf:Hid (NP.parentL s.data.toList=[]):=hid (by unfold NP.parentL;rw[hp];rfl);rw[hp]at cP;clear hp;go_enter Tryz.func124,Tryz.ntmps124
  go_wp2_with fail
  refine cP.mono ?_;rintro e w1 ⟨rfl,hb⟩;go_wp2;go_ret;exact⟨_,rfl,by rw[Hf.out],hb⟩
 ·have h4:s.size<=400:=by rw[size_eq];exact path_short hp
  have Hf:Hid (NP.parentL s.data.toList=NP.upL s.data.toList):=hid (by unfold NP.parentL;rw[hp];rfl);rw[hp]at cP;clear hp;have cL:=fun W=>last_any s W h4;rcases NP.last_at s with ⟨h1,h2⟩|⟨i,hi,h1,h2,h3⟩
  ·rw[h1]at cL;have Hu:=hid (NP.upL_none h2);clear h1 h2;go_enter Tryz.func124,Tryz.ntmps124
   go_wp2_with fail
   refine cP.mono ?_;rintro e w1 ⟨rfl,hb⟩
   go_wp2_with fail
   refine(cL _).mono ?_;rintro e w2 ⟨rfl,rfl⟩;go_wp2;go_ret;refine⟨_,rfl,?_,hb⟩;rw[Hf.out,Hu.out];all_goals first|rfl|(simp;done)|(simp;left;decide)
  ·rw[h1]at cL
   have Hu:Hid (NP.upL s.data.toList=s.data.toList.take i):=hid (by
    have:=NP.upL_snoc (u:=s.data.toList.take i) h3;rw[<- h2]at this
    exact this)
   have ba:(i:Int)<=s.size:=by omega
   clear h1 h2 h3;go_enter Tryz.func124,Tryz.ntmps124
   go_wp2_with fail
   refine cP.mono ?_;rintro e w1 ⟨rfl,hb⟩
   go_wp2_with fail
   refine(cL _).mono ?_;rintro e w2 ⟨rfl,rfl⟩;go_wp2;go_ret;refine⟨_,rfl,?_,hb⟩;rw[Hf.out,Hu.out,← extract_to];all_goals first|rfl|(simp;done)|(simp;left;decide)
end NC
end
end Go.Proofs.YtkmcjededpamnaaGreatDoor
