import Derived.Test.YtkmcjededpamnaaGreatDoorMg2
import Derived.Test.YtkmcjededpamnaaGreatDoorMg1
set_option linter.all false
set_option maxRecDepth 100000
set_option maxHeartbeats 0
namespace Go.Proofs.YtkmcjededpamnaaGreatDoor
open List(length_append mem_of_getElem? length_singleton append_nil append_assoc)
section
open Go.RowKit Go.Lib Go.BigFrame
namespace TR
open OM TP TM
def PutPost(l:List Nd×Nat)(w:World)(r:Ending)(w':World):Prop :=
 ∃ u,r=.returned (.tuple #[u,.int .i64 (l.2:Nat)])/\w'.ownsRow w.heap.size 45 4 u l.1.length (nodesC l.1)/\Below w.heap.size w w'
theorem PutPost.nil{l:List Nd×Nat}{e:Nat}{z:Int}{w w':World}(h:l=([],e))(hz:z=e)(hb:Below w.heap.size w w'):PutPost l w (.returned (.tuple #[.slice none 0 0,.int .i64 z])) w' :=
 ⟨_,by rw[h,hz],by rw[h];exact World.ownsRow_nil _ _ _ _,hb⟩
structure PutIn(w:World)(ao:Option Addr)(ts:List Nd)(p:List UInt8)(bo:Option Addr)(cb:Nat)(v:List Nd):Prop where
 layT:LayN w ao ts
 layV:LayN w bo v
 smallT:Small ts
 smallV:Small v
 lenT:ts.length<=maxLen
 lenV:v.length<=maxLen
 capV:v.length<=cb
 lenP:p.length<=1048576
structure PutCalls(w:World)(ao:Option Addr)(ca:Nat)(ts:List Nd)(p:List UInt8)(bo:Option Addr)(cb:Nat)(v:List Nd)(S U:ByteArray):Prop where
 check:Calls Tryz.prog 24 #[.slice ao ts.length ca] w fun r w'=>r=.returned (.int .i64 (checkE ts:Nat))/\Below w.heap.size w w'
 right:∀ W,Below w.heap.size w W->Calls Tryz.prog 242 #[.slice bo v.length cb] W fun r w'=>r=.returned (.bool (rightV v))/\Below W.heap.size W w'
 path:∀ W,Calls Tryz.prog 86 #[.string S] W fun r w'=>r=.returned (.bool (NP.pathL p))/\Below W.heap.size W w'
 parent:∀ W,Calls Tryz.prog 89 #[.string S] W fun r w'=>r=.returned (.string U)/\Below W.heap.size W w'
 dir:∀ W,Below w.heap.size w W->Calls Tryz.prog 88 #[.slice ao ts.length ca,.string U] W fun r w'=>r=.returned (.bool (dirB ts (NP.parentL p)))/\Below W.heap.size W w'
theorem put_calls{w:World}{ao:Option Addr}{ca:Nat}{ts:List Nd}{p:List UInt8}{bo:Option Addr}{cb:Nat}{v:List Nd}(h:PutIn w ao ts p bo cb v) :
  ∃ S U:ByteArray,txt p=.string S/\S.data.toList=p/\PutCalls w ao ca ts p bo cb v S U:=by
 have b1:(⟨p.toArray⟩:ByteArray).size<=1048576:=by rw[size_eq];simpa using h.lenP
 refine⟨⟨p.toArray⟩,⟨(NP.parentL p).toArray⟩,rfl,by simp,rcheck_any ao ca ts w h.layT h.smallT h.lenT,fun W hW=>rrightv_any bo cb v W (h.layV.below hW) h.smallV h.lenV h.capV,fun W=>?_,fun W=>?_,fun W hW=>rdir_any ao ca ts (NP.parentL p) W (h.layT.below hW) h.lenT⟩
 ·have c:=R1.RQ.rpath_any ⟨p.toArray⟩ W b1;exact c
 ·refine(R1.RT.rparent_any ⟨p.toArray⟩ W b1).mono ?_;rintro r w' ⟨t,rfl,ht,hb⟩;refine⟨?_,hb⟩
  have e:t=⟨(NP.parentL p).toArray⟩:=by
   apply ByteArray.ext;apply Array.ext';rw[ht]
  rw[e]
theorem rput_no(ao:Option Addr)(ca:Nat)(ts:List Nd)(p:List UInt8)(bo:Option Addr)(cb:Nat)(v:List Nd)(w:World)(h:PutIn w ao ts p bo cb v)
  (hno:treeB ts=false\/rightV v=false\/NP.pathL p=false\/(v≠[]/\dirB ts (NP.parentL p)=false)) :
  Calls Tryz.prog 208 #[.slice ao ts.length ca,txt p,.slice bo v.length cb] w (PutPost (putL ts p v) w):=by
 obtain⟨S,U,hS,bb,C⟩:=put_calls (ca:=ca) h
 have HP:Hid (putL ts p v=if treeB ts=false\/rightV v=false then([],60)else if NP.pathL p=false then([],11)else if v≠[]/\dirB ts (NP.parentL p)=false then([],62)else putL ts p v):=hid (by
  by_cases a:treeB ts=false\/rightV v=false
  ·unfold putL;rw[if_pos a,if_pos a]
  ·by_cases b:NP.pathL p=false
   ·unfold putL;rw[if_neg a,if_pos b,if_neg a,if_pos b]
   ·by_cases c:v≠[]/\dirB ts (NP.parentL p)=false
    ·unfold putL;rw[if_neg a,if_neg b,if_pos c,if_neg a,if_neg b,if_pos c]
    ·rw[if_neg a,if_neg b,if_neg c])
 rw[hS];obtain⟨c1,c2,c3,c4,c5⟩:=C;have aG:(ts.length:Int)<=9223372036854775807:=by have:=h.lenT;unfold maxLen at this;omega
 have aH:(v.length:Int)<=9223372036854775807:=by have:=h.lenV;unfold maxLen at this;omega
 have bm:=checkE_zero ts;have hm:0<v.length↔v≠[]:=List.length_pos_iff;obtain⟨n,hn⟩:∃ n,ts.length=n:=⟨_,rfl⟩;obtain⟨m,bp⟩:∃ m,v.length=m:=⟨_,rfl⟩;obtain⟨E,hE⟩:∃ E:Nat,checkE ts=E:=⟨_,rfl⟩;obtain⟨bR,hR⟩:∃ b,rightV v=b:=⟨_,rfl⟩;obtain⟨bP,hP⟩:∃ b,NP.pathL p=b:=⟨_,rfl⟩;obtain⟨bD,hD⟩:∃ b,dirB ts (NP.parentL p)=b:=⟨_,rfl⟩;obtain⟨L,hL⟩:∃ L,putL ts p v=L:=⟨_,rfl⟩;rw[hn]at c1 c5 aG ⊢;rw[bp]at c2 aH hm ⊢;rw[hE]at c1 bm;rw[hR]at c2;rw[hP]at c3;rw[hD]at c5;rw[hR,hP,hD,hL]at HP;rw[hR,hP,hD]at hno;rw[hL];have C1:=hid c1;have C2:=hid c2;have C3:=hid c3;have C4:=hid c4;have C5:=hid c5;clear c1 c2 c3 c4 c5 hn bp hE hR hP hD hL h hS bb;by_cases e1:(E:Int)=0
 ·have b8:((E:Int) != 0)=false:=by simp[e1]
  have ht:=bm.1 e1;rw[ht]at HP hno;clear bm e1 ht
  cases bR with
  | false =>
   have HF:=hid (HP.out.trans (if_pos (.inr rfl)));clear hno hm HP;go_enter Tryz.func208,Tryz.ntmps208
   repeat (first
    | (go_at_call 24;refine C1.out.mono ?_;rintro r w1 ⟨rfl,hb⟩;simp only[];have B1:=hid hb;clear hb)
    | (go_at_call 242;refine OM.onB (C2.out _ B1.out) B1 ?_;intro w2 B2;simp only[])
    | go_skip|go_guarded|go_step|go_upon)
   go_ret2;exact PutPost.nil HF.out rfl B2.out
  | true =>
   cases bP with
   | false =>
    have HF:=hid ((HP.out.trans (if_neg (by simp))).trans (if_pos rfl));clear hno hm HP;go_enter Tryz.func208,Tryz.ntmps208
    repeat (first
     | (go_at_call 24;refine C1.out.mono ?_;rintro r w1 ⟨rfl,hb⟩;simp only[];have B1:=hid hb;clear hb)
     | (go_at_call 242;refine OM.onB (C2.out _ B1.out) B1 ?_;intro w2 B2;simp only[])
     | (go_at_call 86;refine OM.onB (C3.out _) B2 ?_;intro w3 B3;simp only[])
     | go_skip|go_guarded|go_step|go_upon)
    go_ret2;exact PutPost.nil HF.out rfl B3.out
   | true =>
    obtain⟨h0,rfl⟩:v≠[]/\bD=false:=by simpa using hno
    have HF:=hid (((HP.out.trans (if_neg (by simp))).trans (if_neg (by simp))).trans (if_pos ⟨h0,rfl⟩));have m0:=hm.2 h0;have m1:(0:Int)<m:=by omega
    have m2:decide ((0:Int)<m)=true:=by simp[m0]
    clear hno hm HP h0;go_enter Tryz.func208,Tryz.ntmps208
    repeat (first
     | (go_at_call 24;refine C1.out.mono ?_;rintro r w1 ⟨rfl,hb⟩;simp only[];have B1:=hid hb;clear hb)
     | (go_at_call 242;refine OM.onB (C2.out _ B1.out) B1 ?_;intro w2 B2;simp only[])
     | (go_at_call 86;refine OM.onB (C3.out _) B2 ?_;intro w3 B3;simp only[])
     | (go_at_call 89;refine OM.onB (C4.out _) B3 ?_;intro w4 B4;simp only[])
     | (go_at_call 88;refine OM.onB (C5.out _ B4.out) B4 ?_;intro w5 B5;simp only[])
     | go_skip|go_guarded|go_step|go_upon)
    go_ret2;exact PutPost.nil HF.out rfl B5.out
 ·have b8:((E:Int) != 0)=true:=by simp;omega
  have HF:=hid (HP.out.trans (if_pos (.inl (by cases ht:treeB ts with|false=>rfl|true=>exact absurd (bm.2 ht) e1))));clear bm e1 hno hm HP;go_enter Tryz.func208,Tryz.ntmps208
  repeat (first
   | (go_at_call 24;refine C1.out.mono ?_;rintro r w1 ⟨rfl,hb⟩;simp only[];have B1:=hid hb;clear hb)
   | go_skip|go_guarded|go_step|go_upon)
  go_ret2;exact PutPost.nil HF.out rfl B1.out
end TR
end
section
open Go.RowKit Go.Lib Go.BigFrame
namespace TR
open OM TP TM
def PutInv(w:World)(ts:List Nd)(p:List UInt8)(v:List Nd)(n:Nat)(s8 s9 s10:Value)(wr:World):Prop :=
 ∃(i:Nat) (b:Bool),s10=.int .i64 i/\s9=.bool b/\i<=n+1/\wr.ownsRow w.heap.size 45 4 s8 (outK ts p v i b).length (nodesC (outK ts p v i b)) /\
  (b=false->i<=n/\Ahead ts p i)/\(b=true->Behind ts p i/\(v.all fun n=>NP.pathL (place p n.path))=true)/\Below w.heap.size w wr
def ValInv(w:World)(ts:List Nd)(p:List UInt8)(v:List Nd)(i m:Nat)(s8 s11:Value)(wr:World):Prop :=
 ∃ k:Nat,s11=.int .i64 k/\k<=m/\wr.ownsRow w.heap.size 45 4 s8 (outK ts p v i false++valK p v k).length (nodesC (outK ts p v i false++valK p v k))/\PathsK p v k/\Below w.heap.size w wr
theorem PutInv.of{w:World}{ts:List Nd}{p:List UInt8}{v:List Nd}{n:Nat}{s8 s9 s10:Value}{wr:World}(i:Nat)(b:Bool)(h10:s10=.int .i64 i)(h9:s9=.bool b)(hi:i<=n+1)(ho:wr.ownsRow w.heap.size 45 4 s8 (outK ts p v i b).length (nodesC (outK ts p v i b)))
  (h0:b=false->i<=n/\Ahead ts p i) (h1:b=true->Behind ts p i/\(v.all fun n=>NP.pathL (place p n.path))=true) (hb:Below w.heap.size w wr):PutInv w ts p v n s8 s9 s10 wr:=⟨i,b,h10,h9,hi,ho,h0,h1,hb⟩
theorem ValInv.of{w:World}{ts:List Nd}{p:List UInt8}{v:List Nd}{i m:Nat}{s8 s11:Value}{wr:World}(k:Nat)(h11:s11=.int .i64 k)(hk:k<=m)(ho:wr.ownsRow w.heap.size 45 4 s8 (outK ts p v i false++valK p v k).length (nodesC (outK ts p v i false++valK p v k)))(hp:PathsK p v k)(hb:Below w.heap.size w wr):ValInv w ts p v i m s8 s11 wr:=⟨k,h11,hk,ho,hp,hb⟩
theorem val_sum(ts:List Nd)(p:List UInt8)(v:List Nd)(i k:Nat):(outK ts p v i false++valK p v k).length<=2*ts.length+v.length+k:=by
 rw[length_append];have h1:=outK_len ts p v i false;have h2:(valK p v k).length<=k:=by unfold valK;rw[List.length_map,List.length_take];omega
 omega
theorem valK_zero(p:List UInt8)(v:List Nd):valK p v 0=[]:=rfl
theorem val_short{v:List Nd}(h:rightV v=true){y:Nd}(hy:y∈v):y.path.length<=400:=by
 rcases ((val_iff v).1 h).path y hy with e|e
 ·rw[e];simp
 ·exact((path_iff _).1 e).1
theorem place_short(p q:List UInt8):(place p q).length<=p.length+1+q.length:=by
 unfold place;split
 ·omega
 ·rw[length_append,List.length_cons];omega
theorem after_new{W w6:World}{a b c d:Value}{t:TypeId}(hb:Below (W.alloc (.cells #[a,b,c,d] t)).heap.size (W.alloc (.cells #[a,b,c,d] t)) w6) :
  w6.cell? ⟨W.heap.size,0,none⟩=some a/\w6.cell? ⟨W.heap.size,1,none⟩=some b/\w6.cell? ⟨W.heap.size,2,none⟩=some c/\w6.cell? ⟨W.heap.size,3,none⟩=some d/\Below W.heap.size W w6:=by
 obtain⟨c0,c1,c2,c3,_⟩:=cell4 (heap_alloc_new W (.cells #[a,b,c,d] t));have a3:W.heap.size<(W.alloc (.cells #[a,b,c,d] t)).heap.size:=by simp
 exact⟨(hb.cell (p:=⟨W.heap.size,0,none⟩) a3).trans c0,(hb.cell (p:=⟨W.heap.size,1,none⟩) a3).trans c1,(hb.cell (p:=⟨W.heap.size,2,none⟩) a3).trans c2,(hb.cell (p:=⟨W.heap.size,3,none⟩) a3).trans c3,
  ((Below.refl _ _).alloc (Nat.le_refl _) _).trans (hb.mono (Nat.le_of_lt a3))⟩
theorem txt_is(l:List UInt8):∃ S:ByteArray,txt l=.string S/\S.data.toList=l:=⟨_,rfl,by simp⟩
theorem txt_cat{a b c:List UInt8}{A B C:ByteArray}(ha:A.data.toList=a)(hb:B.data.toList=b)(hc:C.data.toList=c)(h:c=a++b):A++B=C:=by
 apply ByteArray.ext;apply Array.ext';rw[hc,h,← ha,← hb];simp
theorem lay_cell{w:World}{g o:Nat}{ts:List Nd}(hg:g<w.heap.size)(hc:∀(k:Nat) (n:Nd),ts[k]?=some n->NodeAt w g (o+k*4) n){i:Nat}{x:Nd}(hx:ts[i]?=some x){X D:ByteArray}(hX:txt x.path=.string X)(hD:txt x.data=.string D) :
  ∀ W,Below w.heap.size w W->W.cell? ⟨g,o+i*4,none⟩=some (.string X)/\W.cell? ⟨g,o+i*4+1,none⟩=some (.int .i64 x.kind)/\W.cell? ⟨g,o+i*4+2,none⟩=some (.string D)/\W.cell? ⟨g,o+i*4+3,none⟩=some (.int .i64 x.mode):=fun W hW=>by
 obtain⟨y0,y1,y2,y3⟩:=(hc i x hx).below hg hW;rw[hX]at y0;rw[hD]at y2;exact⟨y0,y1,y2,y3⟩
theorem rput_yes(ao:Option Addr)(ca:Nat)(ts:List Nd)(p:List UInt8)(bo:Option Addr)(cb:Nat)(v:List Nd)(w:World)(h:PutIn w ao ts p bo cb v)
  (ht:treeB ts=true) (hv:rightV v=true) (hp:NP.pathL p=true) (hd:v=[]\/dirB ts (NP.parentL p)=true) :
  Calls Tryz.prog 208 #[.slice ao ts.length ca,txt p,.slice bo v.length cb] w (PutPost (putL ts p v) w):=by
 obtain⟨i0,hi,aP,aG,aH⟩:=info_parts infoN;have bp:v.length<=1000:=val_len hv;have br:=(tree_iff ts).1 ht;have b7:ts.length<=1000:=br.len;obtain⟨S,U,hS,bb,C⟩:=put_calls (ca:=ca) h
 have HP:Hid (putL ts p v=if(v.all fun n=>NP.pathL (place p n.path))=false then([],11)else if 1000<(outL ts p v).length then([],32)else(outL ts p v,0)):=hid (by
  unfold putL
  rw[if_neg (by rw[ht,hv];simp),if_neg (by rw[hp];simp),if_neg (by rintro ⟨a,b⟩;rcases hd with hd|hd;exact a hd;rw[hd]at b;cases b)])
 rw[hS];obtain⟨c1,c2,c3,c4,c5⟩:=C;have hE:=(checkE_zero ts).2 ht;rw[hE]at c1;rw[hv]at c2;rw[hp]at c3;have C1:=hid c1;have C2:=hid c2;have C3:=hid c3;have C4:=hid c4;have HL:=hid h.layT;have HV:=hid h.layV;have bd:=hid br;have bn:=hid hv;have aI:=hid bb;have b2:=hid hp;have b0:p.length<=400:=((path_iff p).1 hp).1;have bc:S.size<=400:=by rw[size_eq,bb];exact b0
 obtain⟨n,hn⟩:∃ n,ts.length=n:=⟨_,rfl⟩;obtain⟨m,hm⟩:∃ m,v.length=m:=⟨_,rfl⟩;have HN:=hid hn;have HM:=hid hm;have bx:m=0↔v=[]:=by rw[<- hm];exact List.length_eq_zero_iff
 rw[hn]at C1 c5 b7 ⊢;rw[hm]at C2 bp ⊢
 have CO:Hid (∀(X:ByteArray) (W:World),X.size<=1048576->Calls Tryz.prog 90 #[.string X,.string S] W fun r w'=>r=.returned (.int .i64 (NP.ordL X.data.toList p))/\Below W.heap.size W w'):=hid (fun X W hX=>by
  have c:=R1.RO.rorder_any X S W hX (by omega);unfold R1.RO.OrdPost at c;rw[bb]at c
  exact c)
 have CW:Hid (∀(X:ByteArray) (W:World),X.size<=1048576->Calls Tryz.prog 100 #[.string X,.string S] W fun r w'=>r=.returned (.bool (NP.withinL X.data.toList p))/\Below W.heap.size W w'):=hid (fun X W hX=>by
  have c:=R1.RO.rwithin_any X S W hX (by omega);unfold R1.RO.InPost at c;rw[bb]at c
  exact c)
 have CP:Hid (∀(X:ByteArray) (W:World),X.size<=1048576->Calls Tryz.prog 86 #[.string X] W fun r w'=>r=.returned (.bool (NP.pathL X.data.toList))/\Below W.heap.size W w'):=hid (fun X W hX=>R1.RQ.rpath_any X W hX);clear c1 c2 c3 c4 hn hm hE hv ht hp hS bb br h b0;by_cases m0:m=0
 ·have mz:¬(0:Int)<m:=by omega
  have b6:¬ 0<m:=by omega
  clear hd bx c5 m0;go_enter Tryz.func208,Tryz.ntmps208
  repeat (first
   | (go_at_call 24;refine C1.out.mono ?_;rintro r w1 ⟨rfl,hb⟩;simp only[];have B1:=hid hb;clear hb)
   | (go_at_call 242;refine OM.onB (C2.out _ B1.out) B1 ?_;intro w2 B2;simp only[])
   | (go_at_call 86;refine OM.onB (C3.out _) B2 ?_;intro w3 B3;simp only[])
   | go_skip|go_guarded|go_step|go_upon)
  go_loopw [8,9,10,11,12] (fun s8 s9 s10 _ _ wr=>PutInv w ts p v n s8 s9 s10 wr) (fun _ _ s10 _ _ _=>n+1-(RowKit.intOf s10).toNat)
  case atStart=>exact PutInv.of 0 false rfl rfl (by omega) (World.ownsRow_nil _ _ _ _) (fun _=>⟨Nat.zero_le _,Ahead.zero _ _⟩) (fun h=>by cases h) B3.out
  case round =>
   obtain⟨i,b,rfl,rfl,b5,ho,ay,az,hb⟩:=hrel;obtain⟨wo,rfl⟩:∃ x,x=wr:=⟨_,rfl⟩;have HO:=hid ho;have HB:=hid hb;have aK:=hb.size;have ar:=hid (outK_len ts p v i b);rw[HN.out,HM.out]at ar;by_cases hile:i<=n
   ·have bu:(i:Int)<=n:=by omega
    clear ho hb;by_cases hin:i<n
    ·have bw:(i:Int)<n:=by omega
     have bt:((i:Int)==n)=false:=by simp;omega
     have bs:¬(i:Int)=n:=by omega
     obtain⟨g,o,rfl,hg,a2⟩:=HL.out (by rw[HN.out];omega);obtain⟨x,hx⟩:∃ x,ts[i]?=some x:=⟨ts[i]'(by rw[HN.out];exact hin),List.getElem?_eq_getElem _⟩;have bk:=bd.out.path x (mem_of_getElem? hx);obtain⟨X,hX,aU⟩:=txt_is x.path;obtain⟨D,hD,_⟩:=txt_is x.data;have aY:X.size<=1048576:=by rw[size_eq,aU];have:=((path_iff x.path).1 bk).1;omega
     have CN:=hid (lay_cell hg a2 hx hX hD);have a6:Hid (∀ W:World,∀(j:Nat) (u:Value),(ndCells x)[j]?=some u->(W.alloc (.cells #[.string X,.int .i64 x.kind,.string D,.int .i64 x.mode] 45)).cell? ((⟨W.heap.size,0,none⟩:Addr).add j)=some u):=hid (fun W=>four_new W _ rfl x _ _ hX hD _);have ak:=hid (fun W=>CW.out X W aY);have aM:=hid (fun W=>CO.out X W aY);rw[aU]at ak aM;have Hx:=hid hx;obtain⟨e0,e1,e2,e3⟩:=CN.out _ HB.out;clear a2 hX hD aU aY bk hx
     cases b with
     | true =>
      obtain⟨aX,ag⟩:=az rfl;have HI:=hid (And.intro aX.succ ag);have ah:=hid (aX i x (Nat.le_refl _) Hx.out);clear ay az aX ag
      cases hw:NP.withinL x.path p with
      | true =>
       rw[hw]at ak;have HK:=hid (outK_in (v:=v) (b:=true) Hx.out hw);clear hw
       repeat (first
        | (go_at_call 100;refine(ak.out _).mono ?_;rintro r w7 ⟨rfl,hb⟩;simp only[];have aj:=hid (owns_below HO.out hb);have ad:=hid (Below.trans HB.out (hb.mono aK));have a4:=ad.out.size;obtain⟨f0,f1,f2,f3⟩:=CN.out _ ad.out;clear hb)
        | go_skip|go_guarded|go_step|go_upon)
       refine⟨PutInv.of (i+1) true (by go_num) rfl (by omega) ?_ (fun h=>by cases h) (fun _=>HI.out) ad.out,by simp[RowKit.intOf]<;>omega⟩;rw[HK.out];exact aj.out
      | false =>
       rw[hw]at ak;have HK:=hid (outK_high (v:=v) Hx.out hw ah.out);clear hw
       repeat (first
        | (go_at_call 100;refine(ak.out _).mono ?_;rintro r w7 ⟨rfl,hb⟩;simp only[];have aj:=hid (owns_below HO.out hb);have ad:=hid (Below.trans HB.out (hb.mono aK));have a4:=ad.out.size;obtain⟨f0,f1,f2,f3⟩:=CN.out _ ad.out;clear hb)
        | (at_builtin;refine wpList_append_own _ rfl _ _ 22 rfl w.heap.size 45 i0 (ndVal zeroN) 4 48 Tryz.underlying22 hi aP aG aH rfl (by decide) _ _ _ rfl (aj.out.alloc _) ⟨w7.heap.size,0,none⟩ 1 1 (ndCells x) rfl rfl (a6.out _) (nd_one _) (by have:=ar.out;unfold maxLen;omega) (by have:=ar.out;omega) (by simp;omega) ?_;intro v' w9 ab aa ac;have av:=hid ab;have ax:=hid ((ad.out.alloc a4 _).grown aa (by simp;omega) (fun j hj=>(aj.out.lt j hj).1));clear ab aa ac)
        | go_skip|go_guarded|go_step|go_upon)
       refine⟨PutInv.of (i+1) true (by go_num) rfl (by omega) ?_ (fun h=>by cases h) (fun _=>HI.out) ax.out,by simp[RowKit.intOf]<;>omega⟩;rw[HK.out,length_append,length_singleton,nodes_snoc];exact av.out
     | false =>
      have HA:=hid (ay rfl).2;clear ay az;obtain⟨z,hz⟩:∃ z,NP.ordL x.path p=z:=⟨_,rfl⟩;rw[hz]at aM;by_cases hzn:z<0
      ·have HI:Hid (i+1<=n/\Ahead ts p (i+1)):=hid ⟨hin,HA.out.succ Hx.out (by rw[hz];exact hzn)⟩;have ah:Hid (NP.ordL x.path p<0):=hid (by rw[hz];exact hzn);have bz:¬ 0<=z:=by omega
       clear hz
       cases hw:NP.withinL x.path p with
       | true =>
        rw[hw]at ak;have HK:=hid (outK_in (v:=v) (b:=false) Hx.out hw);clear hw
        repeat (first
         | (go_at_call 100;refine(ak.out _).mono ?_;rintro r w7 ⟨rfl,hb⟩;simp only[];have aj:=hid (owns_below aO.out hb);have ad:=hid (Below.trans am.out (hb.mono aQ));have a4:=ad.out.size;obtain⟨f0,f1,f2,f3⟩:=CN.out _ ad.out;clear hb)
         | (go_at_call 90;refine(aM.out _).mono ?_;rintro r w6 ⟨rfl,hb⟩;simp only[];have aO:=hid (owns_below HO.out hb);have am:=hid (Below.trans HB.out (hb.mono aK));have aQ:=am.out.size;obtain⟨j0,j1,j2,j3⟩:=CN.out _ am.out;clear hb)
         | go_skip|go_guarded|go_step|go_upon)
        refine⟨PutInv.of (i+1) false (by go_num) rfl (by omega) ?_ (fun _=>HI.out) (fun h=>by cases h) ad.out,by simp[RowKit.intOf]<;>omega⟩;rw[HK.out];exact aj.out
       | false =>
        rw[hw]at ak;have HK:=hid (outK_low (v:=v) Hx.out hw ah.out);clear hw
        repeat (first
         | (go_at_call 100;refine(ak.out _).mono ?_;rintro r w7 ⟨rfl,hb⟩;simp only[];have aj:=hid (owns_below aO.out hb);have ad:=hid (Below.trans am.out (hb.mono aQ));have a4:=ad.out.size;obtain⟨f0,f1,f2,f3⟩:=CN.out _ ad.out;clear hb)
         | (go_at_call 90;refine(aM.out _).mono ?_;rintro r w6 ⟨rfl,hb⟩;simp only[];have aO:=hid (owns_below HO.out hb);have am:=hid (Below.trans HB.out (hb.mono aK));have aQ:=am.out.size;obtain⟨j0,j1,j2,j3⟩:=CN.out _ am.out;clear hb)
         | (at_builtin;refine wpList_append_own _ rfl _ _ 22 rfl w.heap.size 45 i0 (ndVal zeroN) 4 48 Tryz.underlying22 hi aP aG aH rfl (by decide) _ _ _ rfl (aj.out.alloc _) ⟨w7.heap.size,0,none⟩ 1 1 (ndCells x) rfl rfl (a6.out _) (nd_one _) (by have:=ar.out;unfold maxLen;omega) (by have:=ar.out;omega) (by simp;omega) ?_;intro v' w9 ab aa ac;have av:=hid ab;have ax:=hid ((ad.out.alloc a4 _).grown aa (by simp;omega) (fun j hj=>(aj.out.lt j hj).1));clear ab aa ac)
         | go_skip|go_guarded|go_step|go_upon)
        refine⟨PutInv.of (i+1) false (by go_num) rfl (by omega) ?_ (fun _=>HI.out) (fun h=>by cases h) ax.out,by simp[RowKit.intOf]<;>omega⟩;rw[HK.out,length_append,length_singleton,nodes_snoc];exact av.out
      ·have ah:Hid (¬ NP.ordL x.path p<0):=hid (by rw[hz];exact hzn);have bz:0<=z:=by omega
       clear hz
       repeat (first
        | (go_at_call 90;refine(aM.out _).mono ?_;rintro r w6 ⟨rfl,hb⟩;simp only[];have aO:=hid (owns_below HO.out hb);have am:=hid (Below.trans HB.out (hb.mono aK));have aQ:=am.out.size;obtain⟨j0,j1,j2,j3⟩:=CN.out _ am.out;clear hb)
        | go_skip|go_guarded|go_step|go_upon)
       go_loopw [8,11,12] (fun s8 s11 _ wq=>ValInv w ts p v i m s8 s11 wq) (fun _ s11 _ _=>m-(RowKit.intOf s11).toNat)
       case atStart=>exact ValInv.of 0 rfl (Nat.zero_le _) (by rw[valK_zero,append_nil];exact aO.out) (PathsK.zero _ _) am.out
       case round =>
        obtain⟨k,rfl,hk,aL,aJ,aA⟩:=hrel;obtain⟨wq,rfl⟩:∃ x,x=wr:=⟨_,rfl⟩;have aF:=hid aL;have aw:=hid aA;have aS:=hid aJ;have a7:=aA.size;have a9:=hid (val_sum ts p v i k);rw[HN.out,HM.out]at a9;clear aL aA aJ;by_cases a3:k<m
        ·exact absurd a3 (by omega)
        ·have bl:¬(k:Int)<m:=by omega
         have au:=hid (paths_all aS.out (by rw[HM.out];omega));have aq:=aF.out;rw[valK_end (by rw[HM.out];omega),← outK_flip HA.out]at aq;have aq:=hid aq;clear a3;obtain⟨l0,l1,l2,l3⟩:=CN.out _ aw.out;have ar:=hid (outK_len ts p v i true);rw[HN.out,HM.out]at ar
         cases hw:NP.withinL x.path p with
         | true =>
          rw[hw]at ak;have HI:=hid (And.intro (Behind.of bd.out.sorted Hx.out ah.out).succ au.out);have HK:=hid (outK_in (v:=v) (b:=true) Hx.out hw);clear hw
          repeat (first
           | (go_at_call 100;refine(ak.out _).mono ?_;rintro r w7 ⟨rfl,hb⟩;simp only[];have aj:=hid (owns_below aq.out hb);have ad:=hid (Below.trans aw.out (hb.mono a7));have a4:=ad.out.size;obtain⟨f0,f1,f2,f3⟩:=CN.out _ ad.out;clear hb)
           | go_skip|go_guarded|go_step|go_upon)
          refine⟨PutInv.of (i+1) true (by go_num) rfl (by omega) ?_ (fun h=>by cases h) (fun _=>HI.out) ad.out,by simp[RowKit.intOf]<;>omega⟩;rw[HK.out];exact aj.out
         | false =>
          rw[hw]at ak;have HI:=hid (And.intro (Behind.of bd.out.sorted Hx.out ah.out).succ au.out);have HK:=hid (outK_high (v:=v) Hx.out hw ah.out);clear hw
          repeat (first
           | (go_at_call 100;refine(ak.out _).mono ?_;rintro r w7 ⟨rfl,hb⟩;simp only[];have aj:=hid (owns_below aq.out hb);have ad:=hid (Below.trans aw.out (hb.mono a7));have a4:=ad.out.size;obtain⟨f0,f1,f2,f3⟩:=CN.out _ ad.out;clear hb)
           | (at_builtin;refine wpList_append_own _ rfl _ _ 22 rfl w.heap.size 45 i0 (ndVal zeroN) 4 48 Tryz.underlying22 hi aP aG aH rfl (by decide) _ _ _ rfl (aj.out.alloc _) ⟨w7.heap.size,0,none⟩ 1 1 (ndCells x) rfl rfl (a6.out _) (nd_one _) (by have:=ar.out;unfold maxLen;omega) (by have:=ar.out;omega) (by simp;omega) ?_;intro v' w9 ab aa ac;have av:=hid ab;have ax:=hid ((ad.out.alloc a4 _).grown aa (by simp;omega) (fun j hj=>(aj.out.lt j hj).1));clear ab aa ac)
           | go_skip|go_guarded|go_step|go_upon)
          refine⟨PutInv.of (i+1) true (by go_num) rfl (by omega) ?_ (fun h=>by cases h) (fun _=>HI.out) ax.out,by simp[RowKit.intOf]<;>omega⟩;rw[HK.out,length_append,length_singleton,nodes_snoc];exact av.out
    ·obtain rfl:i=n:=by omega
     cases b with
     | true =>
      have HI:=hid (az rfl).2;clear ay az
      repeat (first
       | go_skip
       | go_skip|go_guarded|go_step|go_upon)
      refine⟨PutInv.of (i+1) true (by go_num) rfl (by omega) ?_ (fun h=>by cases h) (fun _=>⟨(Behind.last (by rw[HN.out];omega)),HI.out⟩) HB.out,by simp[RowKit.intOf]<;>omega⟩;rw[outK_end (by rw[HN.out];omega),← outK_end (t:=ts) (p:=p) (v:=v) (i:=i) (by rw[HN.out];omega)];exact HO.out
     | false =>
      have HA:=hid (ay rfl).2;clear ay az
      repeat (first
       | go_skip
       | go_skip|go_guarded|go_step|go_upon)
      go_loopw [8,11,12] (fun s8 s11 _ wq=>ValInv w ts p v i m s8 s11 wq) (fun _ s11 _ _=>m-(RowKit.intOf s11).toNat)
      case atStart=>exact ValInv.of 0 rfl (Nat.zero_le _) (by rw[valK_zero,append_nil];exact HO.out) (PathsK.zero _ _) HB.out
      case round =>
       obtain⟨k,rfl,hk,aL,aJ,aA⟩:=hrel;obtain⟨wq,rfl⟩:∃ x,x=wr:=⟨_,rfl⟩;have aF:=hid aL;have aw:=hid aA;have aS:=hid aJ;have a7:=aA.size;have a9:=hid (val_sum ts p v i k);rw[HN.out,HM.out]at a9;clear aL aA aJ;by_cases a3:k<m
       ·exact absurd a3 (by omega)
       ·have bl:¬(k:Int)<m:=by omega
        have au:=hid (paths_all aS.out (by rw[HM.out];omega));have aq:=aF.out;rw[valK_end (by rw[HM.out];omega),← outK_flip HA.out]at aq;have aq:=hid aq;clear a3
        repeat (first
         | go_skip
         | go_skip|go_guarded|go_step|go_upon)
        refine⟨PutInv.of (i+1) true (by go_num) rfl (by omega) ?_ (fun h=>by cases h) (fun _=>⟨(Behind.last (by rw[HN.out];omega)),au.out⟩) aw.out,by simp[RowKit.intOf]<;>omega⟩;rw[outK_end (by rw[HN.out];omega),← outK_end (t:=ts) (p:=p) (v:=v) (i:=i) (by rw[HN.out];omega)];exact aq.out
   ·have bu:¬(i:Int)<=n:=by omega
    cases b with
    | false=>exact absurd (ay rfl).1 hile
    | true =>
     have ag:=(az rfl).2;have HK:=hid (outK_end (t:=ts) (p:=p) (v:=v) (i:=i) (by rw[HN.out];omega));obtain⟨a8,k8,rfl,_⟩:=owns_view ho;obtain⟨q,hq⟩:∃ q,(outK ts p v i true).length=q:=⟨_,rfl⟩;have b3:q<=3000:=by have:=ar.out;omega
     have HQ:=hid hq;rw[hq]at HO ho ⊢;by_cases hbig:1000<q
     ·have HF:Hid (putL ts p v=([],32)):=hid (HP.out.trans ((if_neg (by rw[ag];simp)).trans (if_pos (by rw[<- HK.out,hq];exact hbig))));have bv:(1000:Int)<q:=by omega
      clear ag hq ho hb ay az
      repeat (first
       | go_skip
       | go_skip|go_guarded|go_step|go_upon)
      go_ret2;exact PutPost.nil HF.out rfl HB.out
     ·have HF:Hid (putL ts p v=(outL ts p v,0)):=hid (HP.out.trans ((if_neg (by rw[ag];simp)).trans (if_neg (by rw[<- HK.out,hq];exact hbig))));have bv:¬(1000:Int)<q:=by omega
      clear ag hq ho hb ay az
      repeat (first
       | go_skip
       | go_skip|go_guarded|go_step|go_upon)
      go_ret2;refine⟨_,by rw[HF.out];rfl,?_,HB.out⟩;rw[HF.out,← HK.out,HQ.out];exact HO.out
 ·have mz:(0:Int)<m:=by omega
  have b6:0<m:=by omega
  rw[hd.resolve_left (fun e=>m0 (bx.2 e))]at c5;have C5:=hid c5;clear hd bx c5 m0;go_enter Tryz.func208,Tryz.ntmps208
  repeat (first
   | (go_at_call 24;refine C1.out.mono ?_;rintro r w1 ⟨rfl,hb⟩;simp only[];have B1:=hid hb;clear hb)
   | (go_at_call 242;refine OM.onB (C2.out _ B1.out) B1 ?_;intro w2 B2;simp only[])
   | (go_at_call 86;refine OM.onB (C3.out _) B2 ?_;intro w3 B3;simp only[])
   | (go_at_call 89;refine OM.onB (C4.out _) B3 ?_;intro w4 B4;simp only[])
   | (go_at_call 88;refine OM.onB (C5.out _ B4.out) B4 ?_;intro w5 B5;simp only[])
   | go_skip|go_guarded|go_step|go_upon)
  go_loopw [8,9,10,11,12] (fun s8 s9 s10 _ _ wr=>PutInv w ts p v n s8 s9 s10 wr) (fun _ _ s10 _ _ _=>n+1-(RowKit.intOf s10).toNat)
  case atStart=>exact PutInv.of 0 false rfl rfl (by omega) (World.ownsRow_nil _ _ _ _) (fun _=>⟨Nat.zero_le _,Ahead.zero _ _⟩) (fun h=>by cases h) B5.out
  case round =>
   obtain⟨i,b,rfl,rfl,b5,ho,ay,az,hb⟩:=hrel;obtain⟨wo,rfl⟩:∃ x,x=wr:=⟨_,rfl⟩;have HO:=hid ho;have HB:=hid hb;have aK:=hb.size;have ar:=hid (outK_len ts p v i b);rw[HN.out,HM.out]at ar;by_cases hile:i<=n
   ·have bu:(i:Int)<=n:=by omega
    clear ho hb;by_cases hin:i<n
    ·have bw:(i:Int)<n:=by omega
     have bt:((i:Int)==n)=false:=by simp;omega
     have bs:¬(i:Int)=n:=by omega
     obtain⟨g,o,rfl,hg,a2⟩:=HL.out (by rw[HN.out];omega);obtain⟨x,hx⟩:∃ x,ts[i]?=some x:=⟨ts[i]'(by rw[HN.out];exact hin),List.getElem?_eq_getElem _⟩;have bk:=bd.out.path x (mem_of_getElem? hx);obtain⟨X,hX,aU⟩:=txt_is x.path;obtain⟨D,hD,_⟩:=txt_is x.data;have aY:X.size<=1048576:=by rw[size_eq,aU];have:=((path_iff x.path).1 bk).1;omega
     have CN:=hid (lay_cell hg a2 hx hX hD);have a6:Hid (∀ W:World,∀(j:Nat) (u:Value),(ndCells x)[j]?=some u->(W.alloc (.cells #[.string X,.int .i64 x.kind,.string D,.int .i64 x.mode] 45)).cell? ((⟨W.heap.size,0,none⟩:Addr).add j)=some u):=hid (fun W=>four_new W _ rfl x _ _ hX hD _);have ak:=hid (fun W=>CW.out X W aY);have aM:=hid (fun W=>CO.out X W aY);rw[aU]at ak aM;have Hx:=hid hx;obtain⟨e0,e1,e2,e3⟩:=CN.out _ HB.out;clear a2 hX hD aU aY bk hx
     cases b with
     | true =>
      obtain⟨aX,ag⟩:=az rfl;have HI:=hid (And.intro aX.succ ag);have ah:=hid (aX i x (Nat.le_refl _) Hx.out);clear ay az aX ag
      cases hw:NP.withinL x.path p with
      | true =>
       rw[hw]at ak;have HK:=hid (outK_in (v:=v) (b:=true) Hx.out hw);clear hw
       repeat (first
        | (go_at_call 100;refine(ak.out _).mono ?_;rintro r w7 ⟨rfl,hb⟩;simp only[];have aj:=hid (owns_below HO.out hb);have ad:=hid (Below.trans HB.out (hb.mono aK));have a4:=ad.out.size;obtain⟨f0,f1,f2,f3⟩:=CN.out _ ad.out;clear hb)
        | go_skip|go_guarded|go_step|go_upon)
       refine⟨PutInv.of (i+1) true (by go_num) rfl (by omega) ?_ (fun h=>by cases h) (fun _=>HI.out) ad.out,by simp[RowKit.intOf]<;>omega⟩;rw[HK.out];exact aj.out
      | false =>
       rw[hw]at ak;have HK:=hid (outK_high (v:=v) Hx.out hw ah.out);clear hw
       repeat (first
        | (go_at_call 100;refine(ak.out _).mono ?_;rintro r w7 ⟨rfl,hb⟩;simp only[];have aj:=hid (owns_below HO.out hb);have ad:=hid (Below.trans HB.out (hb.mono aK));have a4:=ad.out.size;obtain⟨f0,f1,f2,f3⟩:=CN.out _ ad.out;clear hb)
        | (at_builtin;refine wpList_append_own _ rfl _ _ 22 rfl w.heap.size 45 i0 (ndVal zeroN) 4 48 Tryz.underlying22 hi aP aG aH rfl (by decide) _ _ _ rfl (aj.out.alloc _) ⟨w7.heap.size,0,none⟩ 1 1 (ndCells x) rfl rfl (a6.out _) (nd_one _) (by have:=ar.out;unfold maxLen;omega) (by have:=ar.out;omega) (by simp;omega) ?_;intro v' w9 ab aa ac;have av:=hid ab;have ax:=hid ((ad.out.alloc a4 _).grown aa (by simp;omega) (fun j hj=>(aj.out.lt j hj).1));clear ab aa ac)
        | go_skip|go_guarded|go_step|go_upon)
       refine⟨PutInv.of (i+1) true (by go_num) rfl (by omega) ?_ (fun h=>by cases h) (fun _=>HI.out) ax.out,by simp[RowKit.intOf]<;>omega⟩;rw[HK.out,length_append,length_singleton,nodes_snoc];exact av.out
     | false =>
      have HA:=hid (ay rfl).2;clear ay az;obtain⟨z,hz⟩:∃ z,NP.ordL x.path p=z:=⟨_,rfl⟩;rw[hz]at aM;by_cases hzn:z<0
      ·have HI:Hid (i+1<=n/\Ahead ts p (i+1)):=hid ⟨hin,HA.out.succ Hx.out (by rw[hz];exact hzn)⟩;have ah:Hid (NP.ordL x.path p<0):=hid (by rw[hz];exact hzn);have bz:¬ 0<=z:=by omega
       clear hz
       cases hw:NP.withinL x.path p with
       | true =>
        rw[hw]at ak;have HK:=hid (outK_in (v:=v) (b:=false) Hx.out hw);clear hw
        repeat (first
         | (go_at_call 100;refine(ak.out _).mono ?_;rintro r w7 ⟨rfl,hb⟩;simp only[];have aj:=hid (owns_below aO.out hb);have ad:=hid (Below.trans am.out (hb.mono aQ));have a4:=ad.out.size;obtain⟨f0,f1,f2,f3⟩:=CN.out _ ad.out;clear hb)
         | (go_at_call 90;refine(aM.out _).mono ?_;rintro r w6 ⟨rfl,hb⟩;simp only[];have aO:=hid (owns_below HO.out hb);have am:=hid (Below.trans HB.out (hb.mono aK));have aQ:=am.out.size;obtain⟨j0,j1,j2,j3⟩:=CN.out _ am.out;clear hb)
         | go_skip|go_guarded|go_step|go_upon)
        refine⟨PutInv.of (i+1) false (by go_num) rfl (by omega) ?_ (fun _=>HI.out) (fun h=>by cases h) ad.out,by simp[RowKit.intOf]<;>omega⟩;rw[HK.out];exact aj.out
       | false =>
        rw[hw]at ak;have HK:=hid (outK_low (v:=v) Hx.out hw ah.out);clear hw
        repeat (first
         | (go_at_call 100;refine(ak.out _).mono ?_;rintro r w7 ⟨rfl,hb⟩;simp only[];have aj:=hid (owns_below aO.out hb);have ad:=hid (Below.trans am.out (hb.mono aQ));have a4:=ad.out.size;obtain⟨f0,f1,f2,f3⟩:=CN.out _ ad.out;clear hb)
         | (go_at_call 90;refine(aM.out _).mono ?_;rintro r w6 ⟨rfl,hb⟩;simp only[];have aO:=hid (owns_below HO.out hb);have am:=hid (Below.trans HB.out (hb.mono aK));have aQ:=am.out.size;obtain⟨j0,j1,j2,j3⟩:=CN.out _ am.out;clear hb)
         | (at_builtin;refine wpList_append_own _ rfl _ _ 22 rfl w.heap.size 45 i0 (ndVal zeroN) 4 48 Tryz.underlying22 hi aP aG aH rfl (by decide) _ _ _ rfl (aj.out.alloc _) ⟨w7.heap.size,0,none⟩ 1 1 (ndCells x) rfl rfl (a6.out _) (nd_one _) (by have:=ar.out;unfold maxLen;omega) (by have:=ar.out;omega) (by simp;omega) ?_;intro v' w9 ab aa ac;have av:=hid ab;have ax:=hid ((ad.out.alloc a4 _).grown aa (by simp;omega) (fun j hj=>(aj.out.lt j hj).1));clear ab aa ac)
         | go_skip|go_guarded|go_step|go_upon)
        refine⟨PutInv.of (i+1) false (by go_num) rfl (by omega) ?_ (fun _=>HI.out) (fun h=>by cases h) ax.out,by simp[RowKit.intOf]<;>omega⟩;rw[HK.out,length_append,length_singleton,nodes_snoc];exact av.out
      ·have ah:Hid (¬ NP.ordL x.path p<0):=hid (by rw[hz];exact hzn);have bz:0<=z:=by omega
       clear hz
       repeat (first
        | (go_at_call 90;refine(aM.out _).mono ?_;rintro r w6 ⟨rfl,hb⟩;simp only[];have aO:=hid (owns_below HO.out hb);have am:=hid (Below.trans HB.out (hb.mono aK));have aQ:=am.out.size;obtain⟨j0,j1,j2,j3⟩:=CN.out _ am.out;clear hb)
        | go_skip|go_guarded|go_step|go_upon)
       go_loopw [8,11,12] (fun s8 s11 _ wq=>ValInv w ts p v i m s8 s11 wq) (fun _ s11 _ _=>m-(RowKit.intOf s11).toNat)
       case atStart=>exact ValInv.of 0 rfl (Nat.zero_le _) (by rw[valK_zero,append_nil];exact aO.out) (PathsK.zero _ _) am.out
       case round =>
        obtain⟨k,rfl,hk,aL,aJ,aA⟩:=hrel;obtain⟨wq,rfl⟩:∃ x,x=wr:=⟨_,rfl⟩;have aF:=hid aL;have aw:=hid aA;have aS:=hid aJ;have a7:=aA.size;have a9:=hid (val_sum ts p v i k);rw[HN.out,HM.out]at a9;clear aL aA aJ;by_cases a3:k<m
        ·have bl:(k:Int)<m:=by omega
         obtain⟨g2,o2,rfl,bj,ap⟩:=HV.out (by rw[HM.out];omega);obtain⟨y,hy⟩:∃ y,v[k]?=some y:=⟨v[k]'(by rw[HM.out];exact a3),List.getElem?_eq_getElem _⟩;obtain⟨Y,hY,aC⟩:=txt_is y.path;obtain⟨D2,aZ,_⟩:=txt_is y.data;obtain⟨Q,hQ,a1⟩:=txt_is (place p y.path);have aB:=val_at bn.out hy;have bf:=val_short bn.out (mem_of_getElem? hy);have b4:Y.size<=400:=by rw[size_eq,aC];exact bf
         have bh:Q.size<=1048576:=by rw[size_eq,a1];have h1:=place_short p y.path;have:=bc;rw[size_eq,aI.out]at this;omega
         have CV:=hid (lay_cell bj ap hy hY aZ);have a5:Hid (∀ W:World,∀(j:Nat) (u:Value),(ndCells (placeN p y))[j]?=some u->(W.alloc (.cells #[.string Q,.int .i64 y.kind,.string D2,.int .i64 y.mode] 45)).cell? ((⟨W.heap.size,0,none⟩:Addr).add j)=some u):=hid (fun W=>four_new W _ rfl (placeN p y) _ _ hQ aZ _);have aD:=hid (fun W=>CP.out Q W bh);rw[a1]at aD;obtain⟨y0,y1,y2,y3⟩:=CV.out _ aw.out;have b9:g2<wq.heap.size:=Nat.lt_of_lt_of_le bj a7;have be:=hid (valK_succ (p:=p) hy);clear ap hY aZ hQ bf bh
         cases hq:NP.pathL (place p y.path)with
         | false =>
          have HF:Hid (putL ts p v=([],11)):=hid (HP.out.trans (if_pos (paths_no hy hq)));have k0:k≠0:=fun e=>by rw[aB.1 e,place_nil,b2.out]at hq;cases hq
          rw[hq]at aD;clear hq;have aN:y.path≠[]:=aB.2 k0;have bi:((k:Int)==0)=false:=by simp;omega
          have bg:¬(k:Int)=0:=by omega
          obtain⟨S1,ba⟩:∃ S1:ByteArray,S++⟨#[47]⟩=S1:=⟨_,rfl⟩;have ai:S1.data.toList=p++[47]:=by rw[<- ba];simp[aI.out]
          have aV:=txt_cat (C:=Q) ai aC a1 (by rw[place_ne p aN];simp);have aT:S1.size<=401:=by rw[size_eq,ai,length_append];have:=bc;rw[size_eq,aI.out]at this;simp;omega
          have bq:S1.size+Y.size<=9223372036854775807:=by omega
          have aW:S.size+1<=9223372036854775807:=by omega
          clear ai aC a1 aN aB hy k0
          repeat (first
           | (go_at_call 86;refine(aD.out _).mono ?_;rintro r w8 ⟨rfl,hb⟩;simp only[];obtain⟨q0,q1,q2,q3,al⟩:=after_new hb;have aE:=hid (owns_below aF.out al);have a0:=hid (Below.trans aw.out (al.mono a7));have aR:=a0.out.size;clear hb al)
           | go_skip|go_guarded|go_step|go_upon)
          go_ret2;exact PutPost.nil HF.out rfl a0.out
         | true =>
          have HQ:=hid (aS.out.succ hy hq);rw[hq]at aD;clear hq;by_cases k0:k=0
          ·have bi:((k:Int)==0)=true:=by simp[k0]
           have bg:(k:Int)=0:=by omega
           obtain rfl:Q=S:=by
            apply ByteArray.ext;apply Array.ext';rw[a1,aB.1 k0,place_nil,aI.out]
           simp only[k0,Nat.zero_mul,Nat.add_zero]at y0 y1 y2 y3;clear aC a1 aB hy k0
           repeat (first
            | (go_at_call 86;refine(aD.out _).mono ?_;rintro r w8 ⟨rfl,hb⟩;simp only[];obtain⟨q0,q1,q2,q3,al⟩:=after_new hb;have aE:=hid (owns_below aF.out al);have a0:=hid (Below.trans aw.out (al.mono a7));have aR:=a0.out.size;clear hb al)
            | (at_builtin;refine wpList_append_own _ rfl _ _ 22 rfl w.heap.size 45 i0 (ndVal zeroN) 4 48 Tryz.underlying22 hi aP aG aH rfl (by decide) _ _ _ rfl (aE.out.alloc _) ⟨w8.heap.size,0,none⟩ 1 1 (ndCells (placeN p y)) rfl rfl (a5.out _) (nd_one _) (by have:=a9.out;unfold maxLen;omega) (by have:=a9.out;omega) (by simp;omega) ?_;intro v' w9 ab aa ac;have av:=hid ab;have ax:=hid ((a0.out.alloc aR _).grown aa (by simp;omega) (fun j hj=>(aE.out.lt j hj).1));clear ab aa ac)
            | go_skip|go_guarded|go_step|go_upon)
           refine⟨ValInv.of (k+1) (by go_num) (by omega) ?_ HQ.out ax.out,by simp[RowKit.intOf]<;>omega⟩;rw[be.out,← append_assoc,length_append,length_singleton,nodes_snoc];exact av.out
          ·have aN:y.path≠[]:=aB.2 k0;have bi:((k:Int)==0)=false:=by simp;omega
           have bg:¬(k:Int)=0:=by omega
           obtain⟨S1,ba⟩:∃ S1:ByteArray,S++⟨#[47]⟩=S1:=⟨_,rfl⟩;have ai:S1.data.toList=p++[47]:=by rw[<- ba];simp[aI.out]
           have aV:=txt_cat (C:=Q) ai aC a1 (by rw[place_ne p aN];simp);have aT:S1.size<=401:=by rw[size_eq,ai,length_append];have:=bc;rw[size_eq,aI.out]at this;simp;omega
           have bq:S1.size+Y.size<=9223372036854775807:=by omega
           have aW:S.size+1<=9223372036854775807:=by omega
           clear ai aC a1 aN aB hy k0
           repeat (first
            | (go_at_call 86;refine(aD.out _).mono ?_;rintro r w8 ⟨rfl,hb⟩;simp only[];obtain⟨q0,q1,q2,q3,al⟩:=after_new hb;have aE:=hid (owns_below aF.out al);have a0:=hid (Below.trans aw.out (al.mono a7));have aR:=a0.out.size;clear hb al)
            | (at_builtin;refine wpList_append_own _ rfl _ _ 22 rfl w.heap.size 45 i0 (ndVal zeroN) 4 48 Tryz.underlying22 hi aP aG aH rfl (by decide) _ _ _ rfl (aE.out.alloc _) ⟨w8.heap.size,0,none⟩ 1 1 (ndCells (placeN p y)) rfl rfl (a5.out _) (nd_one _) (by have:=a9.out;unfold maxLen;omega) (by have:=a9.out;omega) (by simp;omega) ?_;intro v' w9 ab aa ac;have av:=hid ab;have ax:=hid ((a0.out.alloc aR _).grown aa (by simp;omega) (fun j hj=>(aE.out.lt j hj).1));clear ab aa ac)
            | go_skip|go_guarded|go_step|go_upon)
           refine⟨ValInv.of (k+1) (by go_num) (by omega) ?_ HQ.out ax.out,by simp[RowKit.intOf]<;>omega⟩;rw[be.out,← append_assoc,length_append,length_singleton,nodes_snoc];exact av.out
        ·have bl:¬(k:Int)<m:=by omega
         have au:=hid (paths_all aS.out (by rw[HM.out];omega));have aq:=aF.out;rw[valK_end (by rw[HM.out];omega),← outK_flip HA.out]at aq;have aq:=hid aq;clear a3;obtain⟨l0,l1,l2,l3⟩:=CN.out _ aw.out;have ar:=hid (outK_len ts p v i true);rw[HN.out,HM.out]at ar
         cases hw:NP.withinL x.path p with
         | true =>
          rw[hw]at ak;have HI:=hid (And.intro (Behind.of bd.out.sorted Hx.out ah.out).succ au.out);have HK:=hid (outK_in (v:=v) (b:=true) Hx.out hw);clear hw
          repeat (first
           | (go_at_call 100;refine(ak.out _).mono ?_;rintro r w7 ⟨rfl,hb⟩;simp only[];have aj:=hid (owns_below aq.out hb);have ad:=hid (Below.trans aw.out (hb.mono a7));have a4:=ad.out.size;obtain⟨f0,f1,f2,f3⟩:=CN.out _ ad.out;clear hb)
           | go_skip|go_guarded|go_step|go_upon)
          refine⟨PutInv.of (i+1) true (by go_num) rfl (by omega) ?_ (fun h=>by cases h) (fun _=>HI.out) ad.out,by simp[RowKit.intOf]<;>omega⟩;rw[HK.out];exact aj.out
         | false =>
          rw[hw]at ak;have HI:=hid (And.intro (Behind.of bd.out.sorted Hx.out ah.out).succ au.out);have HK:=hid (outK_high (v:=v) Hx.out hw ah.out);clear hw
          repeat (first
           | (go_at_call 100;refine(ak.out _).mono ?_;rintro r w7 ⟨rfl,hb⟩;simp only[];have aj:=hid (owns_below aq.out hb);have ad:=hid (Below.trans aw.out (hb.mono a7));have a4:=ad.out.size;obtain⟨f0,f1,f2,f3⟩:=CN.out _ ad.out;clear hb)
           | (at_builtin;refine wpList_append_own _ rfl _ _ 22 rfl w.heap.size 45 i0 (ndVal zeroN) 4 48 Tryz.underlying22 hi aP aG aH rfl (by decide) _ _ _ rfl (aj.out.alloc _) ⟨w7.heap.size,0,none⟩ 1 1 (ndCells x) rfl rfl (a6.out _) (nd_one _) (by have:=ar.out;unfold maxLen;omega) (by have:=ar.out;omega) (by simp;omega) ?_;intro v' w9 ab aa ac;have av:=hid ab;have ax:=hid ((ad.out.alloc a4 _).grown aa (by simp;omega) (fun j hj=>(aj.out.lt j hj).1));clear ab aa ac)
           | go_skip|go_guarded|go_step|go_upon)
          refine⟨PutInv.of (i+1) true (by go_num) rfl (by omega) ?_ (fun h=>by cases h) (fun _=>HI.out) ax.out,by simp[RowKit.intOf]<;>omega⟩;rw[HK.out,length_append,length_singleton,nodes_snoc];exact av.out
    ·obtain rfl:i=n:=by omega
     cases b with
     | true =>
      have HI:=hid (az rfl).2;clear ay az
      repeat (first
       | go_skip
       | go_skip|go_guarded|go_step|go_upon)
      refine⟨PutInv.of (i+1) true (by go_num) rfl (by omega) ?_ (fun h=>by cases h) (fun _=>⟨(Behind.last (by rw[HN.out];omega)),HI.out⟩) HB.out,by simp[RowKit.intOf]<;>omega⟩;rw[outK_end (by rw[HN.out];omega),← outK_end (t:=ts) (p:=p) (v:=v) (i:=i) (by rw[HN.out];omega)];exact HO.out
     | false =>
      have HA:=hid (ay rfl).2;clear ay az
      repeat (first
       | go_skip
       | go_skip|go_guarded|go_step|go_upon)
      go_loopw [8,11,12] (fun s8 s11 _ wq=>ValInv w ts p v i m s8 s11 wq) (fun _ s11 _ _=>m-(RowKit.intOf s11).toNat)
      case atStart=>exact ValInv.of 0 rfl (Nat.zero_le _) (by rw[valK_zero,append_nil];exact HO.out) (PathsK.zero _ _) HB.out
      case round =>
       obtain⟨k,rfl,hk,aL,aJ,aA⟩:=hrel;obtain⟨wq,rfl⟩:∃ x,x=wr:=⟨_,rfl⟩;have aF:=hid aL;have aw:=hid aA;have aS:=hid aJ;have a7:=aA.size;have a9:=hid (val_sum ts p v i k);rw[HN.out,HM.out]at a9;clear aL aA aJ;by_cases a3:k<m
       ·have bl:(k:Int)<m:=by omega
        obtain⟨g2,o2,rfl,bj,ap⟩:=HV.out (by rw[HM.out];omega);obtain⟨y,hy⟩:∃ y,v[k]?=some y:=⟨v[k]'(by rw[HM.out];exact a3),List.getElem?_eq_getElem _⟩;obtain⟨Y,hY,aC⟩:=txt_is y.path;obtain⟨D2,aZ,_⟩:=txt_is y.data;obtain⟨Q,hQ,a1⟩:=txt_is (place p y.path);have aB:=val_at bn.out hy;have bf:=val_short bn.out (mem_of_getElem? hy);have b4:Y.size<=400:=by rw[size_eq,aC];exact bf
        have bh:Q.size<=1048576:=by rw[size_eq,a1];have h1:=place_short p y.path;have:=bc;rw[size_eq,aI.out]at this;omega
        have CV:=hid (lay_cell bj ap hy hY aZ);have a5:Hid (∀ W:World,∀(j:Nat) (u:Value),(ndCells (placeN p y))[j]?=some u->(W.alloc (.cells #[.string Q,.int .i64 y.kind,.string D2,.int .i64 y.mode] 45)).cell? ((⟨W.heap.size,0,none⟩:Addr).add j)=some u):=hid (fun W=>four_new W _ rfl (placeN p y) _ _ hQ aZ _);have aD:=hid (fun W=>CP.out Q W bh);rw[a1]at aD;obtain⟨y0,y1,y2,y3⟩:=CV.out _ aw.out;have b9:g2<wq.heap.size:=Nat.lt_of_lt_of_le bj a7;have be:=hid (valK_succ (p:=p) hy);clear ap hY aZ hQ bf bh
        cases hq:NP.pathL (place p y.path)with
        | false =>
         have HF:Hid (putL ts p v=([],11)):=hid (HP.out.trans (if_pos (paths_no hy hq)));have k0:k≠0:=fun e=>by rw[aB.1 e,place_nil,b2.out]at hq;cases hq
         rw[hq]at aD;clear hq;have aN:y.path≠[]:=aB.2 k0;have bi:((k:Int)==0)=false:=by simp;omega
         have bg:¬(k:Int)=0:=by omega
         obtain⟨S1,ba⟩:∃ S1:ByteArray,S++⟨#[47]⟩=S1:=⟨_,rfl⟩;have ai:S1.data.toList=p++[47]:=by rw[<- ba];simp[aI.out]
         have aV:=txt_cat (C:=Q) ai aC a1 (by rw[place_ne p aN];simp);have aT:S1.size<=401:=by rw[size_eq,ai,length_append];have:=bc;rw[size_eq,aI.out]at this;simp;omega
         have bq:S1.size+Y.size<=9223372036854775807:=by omega
         have aW:S.size+1<=9223372036854775807:=by omega
         clear ai aC a1 aN aB hy k0
         repeat (first
          | (go_at_call 86;refine(aD.out _).mono ?_;rintro r w8 ⟨rfl,hb⟩;simp only[];obtain⟨q0,q1,q2,q3,al⟩:=after_new hb;have aE:=hid (owns_below aF.out al);have a0:=hid (Below.trans aw.out (al.mono a7));have aR:=a0.out.size;clear hb al)
          | go_skip|go_guarded|go_step|go_upon)
         go_ret2;exact PutPost.nil HF.out rfl a0.out
        | true =>
         have HQ:=hid (aS.out.succ hy hq);rw[hq]at aD;clear hq;by_cases k0:k=0
         ·have bi:((k:Int)==0)=true:=by simp[k0]
          have bg:(k:Int)=0:=by omega
          obtain rfl:Q=S:=by
           apply ByteArray.ext;apply Array.ext';rw[a1,aB.1 k0,place_nil,aI.out]
          simp only[k0,Nat.zero_mul,Nat.add_zero]at y0 y1 y2 y3;clear aC a1 aB hy k0
          repeat (first
           | (go_at_call 86;refine(aD.out _).mono ?_;rintro r w8 ⟨rfl,hb⟩;simp only[];obtain⟨q0,q1,q2,q3,al⟩:=after_new hb;have aE:=hid (owns_below aF.out al);have a0:=hid (Below.trans aw.out (al.mono a7));have aR:=a0.out.size;clear hb al)
           | (at_builtin;refine wpList_append_own _ rfl _ _ 22 rfl w.heap.size 45 i0 (ndVal zeroN) 4 48 Tryz.underlying22 hi aP aG aH rfl (by decide) _ _ _ rfl (aE.out.alloc _) ⟨w8.heap.size,0,none⟩ 1 1 (ndCells (placeN p y)) rfl rfl (a5.out _) (nd_one _) (by have:=a9.out;unfold maxLen;omega) (by have:=a9.out;omega) (by simp;omega) ?_;intro v' w9 ab aa ac;have av:=hid ab;have ax:=hid ((a0.out.alloc aR _).grown aa (by simp;omega) (fun j hj=>(aE.out.lt j hj).1));clear ab aa ac)
           | go_skip|go_guarded|go_step|go_upon)
          refine⟨ValInv.of (k+1) (by go_num) (by omega) ?_ HQ.out ax.out,by simp[RowKit.intOf]<;>omega⟩;rw[be.out,← append_assoc,length_append,length_singleton,nodes_snoc];exact av.out
         ·have aN:y.path≠[]:=aB.2 k0;have bi:((k:Int)==0)=false:=by simp;omega
          have bg:¬(k:Int)=0:=by omega
          obtain⟨S1,ba⟩:∃ S1:ByteArray,S++⟨#[47]⟩=S1:=⟨_,rfl⟩;have ai:S1.data.toList=p++[47]:=by rw[<- ba];simp[aI.out]
          have aV:=txt_cat (C:=Q) ai aC a1 (by rw[place_ne p aN];simp);have aT:S1.size<=401:=by rw[size_eq,ai,length_append];have:=bc;rw[size_eq,aI.out]at this;simp;omega
          have bq:S1.size+Y.size<=9223372036854775807:=by omega
          have aW:S.size+1<=9223372036854775807:=by omega
          clear ai aC a1 aN aB hy k0
          repeat (first
           | (go_at_call 86;refine(aD.out _).mono ?_;rintro r w8 ⟨rfl,hb⟩;simp only[];obtain⟨q0,q1,q2,q3,al⟩:=after_new hb;have aE:=hid (owns_below aF.out al);have a0:=hid (Below.trans aw.out (al.mono a7));have aR:=a0.out.size;clear hb al)
           | (at_builtin;refine wpList_append_own _ rfl _ _ 22 rfl w.heap.size 45 i0 (ndVal zeroN) 4 48 Tryz.underlying22 hi aP aG aH rfl (by decide) _ _ _ rfl (aE.out.alloc _) ⟨w8.heap.size,0,none⟩ 1 1 (ndCells (placeN p y)) rfl rfl (a5.out _) (nd_one _) (by have:=a9.out;unfold maxLen;omega) (by have:=a9.out;omega) (by simp;omega) ?_;intro v' w9 ab aa ac;have av:=hid ab;have ax:=hid ((a0.out.alloc aR _).grown aa (by simp;omega) (fun j hj=>(aE.out.lt j hj).1));clear ab aa ac)
           | go_skip|go_guarded|go_step|go_upon)
          refine⟨ValInv.of (k+1) (by go_num) (by omega) ?_ HQ.out ax.out,by simp[RowKit.intOf]<;>omega⟩;rw[be.out,← append_assoc,length_append,length_singleton,nodes_snoc];exact av.out
       ·have bl:¬(k:Int)<m:=by omega
        have au:=hid (paths_all aS.out (by rw[HM.out];omega));have aq:=aF.out;rw[valK_end (by rw[HM.out];omega),← outK_flip HA.out]at aq;have aq:=hid aq;clear a3
        repeat (first
         | go_skip
         | go_skip|go_guarded|go_step|go_upon)
        refine⟨PutInv.of (i+1) true (by go_num) rfl (by omega) ?_ (fun h=>by cases h) (fun _=>⟨(Behind.last (by rw[HN.out];omega)),au.out⟩) aw.out,by simp[RowKit.intOf]<;>omega⟩;rw[outK_end (by rw[HN.out];omega),← outK_end (t:=ts) (p:=p) (v:=v) (i:=i) (by rw[HN.out];omega)];exact aq.out
   ·have bu:¬(i:Int)<=n:=by omega
    cases b with
    | false=>exact absurd (ay rfl).1 hile
    | true =>
     have ag:=(az rfl).2;have HK:=hid (outK_end (t:=ts) (p:=p) (v:=v) (i:=i) (by rw[HN.out];omega));obtain⟨a8,k8,rfl,_⟩:=owns_view ho;obtain⟨q,hq⟩:∃ q,(outK ts p v i true).length=q:=⟨_,rfl⟩;have b3:q<=3000:=by have:=ar.out;omega
     have HQ:=hid hq;rw[hq]at HO ho ⊢;by_cases hbig:1000<q
     ·have HF:Hid (putL ts p v=([],32)):=hid (HP.out.trans ((if_neg (by rw[ag];simp)).trans (if_pos (by rw[<- HK.out,hq];exact hbig))));have bv:(1000:Int)<q:=by omega
      clear ag hq ho hb ay az
      repeat (first
       | go_skip
       | go_skip|go_guarded|go_step|go_upon)
      go_ret2;exact PutPost.nil HF.out rfl HB.out
     ·have HF:Hid (putL ts p v=(outL ts p v,0)):=hid (HP.out.trans ((if_neg (by rw[ag];simp)).trans (if_neg (by rw[<- HK.out,hq];exact hbig))));have bv:¬(1000:Int)<q:=by omega
      clear ag hq ho hb ay az
      repeat (first
       | go_skip
       | go_skip|go_guarded|go_step|go_upon)
      go_ret2;refine⟨_,by rw[HF.out];rfl,?_,HB.out⟩;rw[HF.out,← HK.out,HQ.out];exact HO.out
end TR
end
section
open Go.RowKit Go.Lib Go.BigFrame
namespace TR
open OM TP TM
theorem rput_any(ao:Option Addr)(ca:Nat)(ts:List Nd)(p:List UInt8)(bo:Option Addr)(cb:Nat)(v:List Nd)(w:World)(h:PutIn w ao ts p bo cb v) :
  Calls Tryz.prog 208 #[.slice ao ts.length ca,txt p,.slice bo v.length cb] w (PutPost (putL ts p v) w):=by
 cases ht:treeB ts with
 | false=>exact rput_no ao ca ts p bo cb v w h (.inl ht)
 | true =>
  cases hv:rightV v with
  | false=>exact rput_no ao ca ts p bo cb v w h (.inr (.inl hv))
  | true =>
   cases hp:NP.pathL p with
   | false=>exact rput_no ao ca ts p bo cb v w h (.inr (.inr (.inl hp)))
   | true =>
    by_cases h0:v=[]
    ·exact rput_yes ao ca ts p bo cb v w h ht hv hp (.inl h0)
    ·cases hd:dirB ts (NP.parentL p)with
     | false=>exact rput_no ao ca ts p bo cb v w h (.inr (.inr (.inr ⟨h0,hd⟩)))
     | true=>exact rput_yes ao ca ts p bo cb v w h ht hv hp (.inr hd)
end TR
end
end Go.Proofs.YtkmcjededpamnaaGreatDoor
