import Derived.Test.YtkmcjededpamnaaGreatDoorMg23
import Derived.Test.YtkmcjededpamnaaGreatDoorMg1
import Derived.Test.YtkmcjededpamnaaGreatDoorMg11
import Derived.Deep.Slices
import Derived.Deep.SlicePairs
import Derived.Lib.SmallJoins
import Derived.Test.YtkmcjededpamnaaGreatDoorArg
set_option linter.all false
set_option maxRecDepth 100000
set_option maxHeartbeats 0
namespace Go.Proofs.YtkmcjededpamnaaGreatDoor
open List(getElem?_map getElem?_range)
section
open Go.RowKit Go.Lib
namespace DG
open OM TP TM DP DM
structure CalAt(W:World)(g o:Nat)(c:Cal):Prop where
 w:W.cell? ⟨g,o,none⟩=some (.int .i64 c.what)
 p:W.cell? ⟨g,o+1,none⟩=some (txt c.path)
 q:W.cell? ⟨g,o+2,none⟩=some (txt c.dest)
 d:W.cell? ⟨g,o+3,none⟩=some (txt c.data)
 m:W.cell? ⟨g,o+4,none⟩=some (.int .i64 c.mode)
def LayC(W:World)(ao:Option Addr)(cs:List Cal):Prop :=
 0<cs.length->∃ g o,ao=some ⟨g,o,none⟩/\g<W.heap.size/\∀(k:Nat) (c:Cal),cs[k]?=some c->CalAt W g (o+k*5) c
end DG
open Go.ChangeShapes Go.WideShapes Go.ChangeAt
namespace DA
open OM TP TM DG
section
open Go.Deep
variable {H:Type} {enc:TypeId×Value->H} {P:Program} {w:World} {base:Nat} {spare:Nat->Bool} {held:Bool}
theorem open_fives{t e:TypeId}{f0 f1 f2 f3 f4:Field}{fuel:Nat}{cs:List Value}{x:DataW H×List MemPlace}(ht:P.underlying t=some (.slice e))(he:P.underlying e=some (.struct #[f0,f1,f2,f3,f4]))
  (ce:P.cellsOf e=5) (o0:f0.offset=0) (o1:f1.offset=1) (o2:f2.offset=2) (o3:f3.offset=3) (o4:f4.offset=4) (c0:P.cellsOf f0.type=1) (c1:P.cellsOf f1.type=1) (c2:P.cellsOf f2.type=1) (c3:P.cellsOf f3.type=1) (c4:P.cellsOf f4.type=1)
  (h:DataW.trod enc P w base spare held fuel t cs=some x) :
  cs=[.slice none 0 0] \/
  ∃(a:Addr) (len cap n:Nat) (D:Nat->DataW H) (sp:List (DataW H)),cs=[.slice (some a) len cap]/\len<=cap/\cap<=maxLen/\x.1=.slice ((List.range len).map D) sp /\
   ∀ i,i<len->∃(v0 v1 v2 v3 v4:Value) (y0 y1 y2 y3 y4:DataW H×List MemPlace),w.cell? (a.add (i*5))=some v0/\w.cell? (a.add (i*5+1))=some v1/\w.cell? (a.add (i*5+2))=some v2/\w.cell? (a.add (i*5+3))=some v3/\w.cell? (a.add (i*5+4))=some v4 /\
    D i=.agg [y0.1,y1.1,y2.1,y3.1,y4.1] /\
    DataW.trod enc P w base spare held n f0.type [v0]=some y0/\DataW.trod enc P w base spare held n f1.type [v1]=some y1/\DataW.trod enc P w base spare held n f2.type [v2]=some y2/\DataW.trod enc P w base spare held n f3.type [v3]=some y3/\DataW.trod enc P w base spare held n f4.type [v4]=some y4:=by
 rcases open_slice ht h with h0|⟨a,len,cap,m,n,D,Pl,rfl,hb,hl,hm,ay,rfl,hx⟩
 ·exact Or.inl h0.1
 right;have a4:len<=m:=by rw[ay];split<;>omega
 refine⟨a,len,cap,n-1,D,_,rfl,hl,hm,rfl,fun i hi=>?_⟩;obtain⟨az,h1,h2⟩:=hx i (by omega);rw[ce]at h1;obtain⟨_,ab,aa⟩:=World.cells?_some h1;obtain⟨xs,k,hk,ap,_,aw,hf⟩:=DataW.trod_struct he h2;have ax:k=n-1:=by omega
 subst ax
 match xs,aw,az,ab with
 | [y0,y1,y2,y3,y4],_,[v0,v1,v2,v3,v4],_ =>
  have g0:=hf 0 f0 rfl;have g1:=hf 1 f1 rfl;have g2:=hf 2 f2 rfl;have g3:=hf 3 f3 rfl;have g4:=hf 4 f4 rfl;simp[o0,o1,o2,o3,o4,c0,c1,c2,c3,c4]at g0 g1 g2 g3 g4;have e0:=aa 0 (by omega);have e1:=aa 1 (by omega);have e2:=aa 2 (by omega);have e3:=aa 3 (by omega);have e4:=aa 4 (by omega);rw[add_add]at e0 e1 e2 e3 e4;simp only[Prod.mk.injEq]at ap;exact⟨v0,v1,v2,v3,v4,y0,y1,y2,y3,y4,by simpa using e0,by simpa using e1,by simpa using e2,by simpa using e3,by simpa using e4,ap.1,g0,g1,g2,g3,g4⟩
end
theorem add_pl(b off k:Nat):(⟨b,off,none⟩:Addr).add k=⟨b,off+k,none⟩:=by unfold Addr.add;split<;>simp_all
end DA
end
section
open Go.ChangeShapes Go.WideShapes Go.ChangeAt Go.RowKit Go.Lib
namespace DA
open OM TP TM DP DM DG
section
open Go.Deep
variable {H:Type} {enc:TypeId×Value->H} {P:Program} {w:World} {base:Nat} {spare:Nat->Bool} {held:Bool}
theorem open_threes{t e:TypeId}{f0 f1 f2:Field}{fuel:Nat}{cs:List Value}{x:DataW H×List MemPlace}(ht:P.underlying t=some (.slice e))(he:P.underlying e=some (.struct #[f0,f1,f2]))
  (ce:P.cellsOf e=3) (o0:f0.offset=0) (o1:f1.offset=1) (o2:f2.offset=2) (c0:P.cellsOf f0.type=1) (c1:P.cellsOf f1.type=1) (c2:P.cellsOf f2.type=1)
  (h:DataW.trod enc P w base spare held fuel t cs=some x) :
  cs=[.slice none 0 0] \/
  ∃(a:Addr) (len cap n:Nat) (D:Nat->DataW H) (sp:List (DataW H)),cs=[.slice (some a) len cap]/\len<=cap/\cap<=maxLen/\x.1=.slice ((List.range len).map D) sp /\
   ∀ i,i<len->∃(v0 v1 v2:Value) (y0 y1 y2:DataW H×List MemPlace),w.cell? (a.add (i*3))=some v0/\w.cell? (a.add (i*3+1))=some v1/\w.cell? (a.add (i*3+2))=some v2 /\
    D i=.agg [y0.1,y1.1,y2.1] /\
    DataW.trod enc P w base spare held n f0.type [v0]=some y0/\DataW.trod enc P w base spare held n f1.type [v1]=some y1/\DataW.trod enc P w base spare held n f2.type [v2]=some y2:=by
 rcases open_slice ht h with h0|⟨a,len,cap,m,n,D,Pl,rfl,hb,hl,hm,ay,rfl,hx⟩
 ·exact Or.inl h0.1
 right;have a4:len<=m:=by rw[ay];split<;>omega
 refine⟨a,len,cap,n-1,D,_,rfl,hl,hm,rfl,fun i hi=>?_⟩;obtain⟨az,h1,h2⟩:=hx i (by omega);rw[ce]at h1;obtain⟨_,ab,aa⟩:=World.cells?_some h1;obtain⟨xs,k,hk,ap,_,aw,hf⟩:=DataW.trod_struct he h2;have ax:k=n-1:=by omega
 subst ax
 match xs,aw,az,ab with
 | [y0,y1,y2],_,[v0,v1,v2],_ =>
  have g0:=hf 0 f0 rfl;have g1:=hf 1 f1 rfl;have g2:=hf 2 f2 rfl;simp[o0,o1,o2,c0,c1,c2]at g0 g1 g2;have e0:=aa 0 (by omega);have e1:=aa 1 (by omega);have e2:=aa 2 (by omega);rw[add_add]at e0 e1 e2;simp only[Prod.mk.injEq]at ap;exact⟨v0,v1,v2,y0,y1,y2,by simpa using e0,by simpa using e1,by simpa using e2,ap.1,g0,g1,g2⟩
theorem slice_shape{t e:TypeId}{fuel:Nat}{v:Value}{x:DataW H×List MemPlace}(ht:P.underlying t=some (.slice e))(h:DataW.trod enc P w base spare held fuel t [v]=some x):∃ a len cap,v=.slice a len cap:=by
 rcases open_slice ht h with h0|⟨a,len,cap,m,n,D,Pl,h1,_⟩
 ·have:=h0.1;simp only[List.cons.injEq,and_true]at this;exact⟨_,_,_,this⟩
 ·simp only[List.cons.injEq,and_true]at h1;exact⟨_,_,_,h1⟩
end
theorem fates_at:∀(fs:List Fate) (k:Nat) (f:Fate) (i:Nat),fs[k]?=some f->i<4->(fatesC fs)[k*4+i]?=(fateC f)[i]?
 | a::fs,0,f,i,h,hi=>by
  simp at h;subst h;show(fateC a++fatesC fs)[0*4+i]?=_;rw[List.getElem?_append_left (by show _<4;omega),Nat.zero_mul,Nat.zero_add]
 | a::fs,k+1,f,i,h,hi=>by
  have ih:=fates_at fs k f i (by simpa using h) hi;show(fateC a++fatesC fs)[(k+1)*4+i]?=_;rw[List.getElem?_append_right (by show 4<=_;omega),← ih];congr 1;show(k+1)*4+i-4=_;omega
theorem fates_arg{H:Type}{enc:TypeId×Value->H}{W:World}{spare:Nat->Bool}{held:Bool}{fuel len cap:Nat}{a0:Option Addr}{x:DataW H×List MemPlace}
  (h:DataW.trod enc Tryz.prog W 0 spare held fuel 23 [Value.slice a0 len cap]=some x) (hb:Rows.uptoBulk x.1<=1048576) :
  ∃ fs:List Fate,fs.length=len/\(∀ ad,a0=some ad->(0<fs.length->ad.block<W.heap.size)/\∀(j:Nat) (u:Value),(fatesC fs)[j]?=some u->W.cell? (ad.add j)=some u)/\(a0=none->fs.length=0/\cap=0)/\fs.length<=1048576:=by
 rcases TF.open_fours Tryz.underlying23 Tryz.underlying116 (by kernel_rfl) rfl rfl rfl rfl (by kernel_rfl) (by kernel_rfl) (by kernel_rfl) (by kernel_rfl) h with ac|⟨ad,al,am,n,D,sp,ac,hl,hm,hx,aa⟩
 ·simp at ac;obtain⟨rfl,rfl,rfl⟩:=ac;exact⟨[],rfl,(fun ad h=>by cases h),(fun _=>⟨rfl,rfl⟩),by simp⟩
 ·simp at ac;obtain⟨rfl,rfl,rfl⟩:=ac;rw[hx,Rows.uptoBulk]at hb
  have ab:len<=1048576:=by
   have:=TF.bulk_len ((List.range len).map D);rw[List.length_map,List.length_range]at this;omega
  have aq:∀ i,i<len->∃ r:Fate,W.cell? (ad.add (i*4))=some (.int .i64 r.at_)/\W.cell? (ad.add (i*4+1))=some (.int .i64 r.what)/\W.cell? (ad.add (i*4+2))=some (.int .i64 r.keep)/\W.cell? (ad.add (i*4+3))=some (.int .i64 r.torn):=by
   intro i hi;obtain⟨v0,v1,v2,v3,y0,y1,y2,y3,e0,e1,e2,e3,hD,t0,t1,t2,t3⟩:=aa i hi;obtain⟨k0,f0,_,_⟩:=DataW.trod_int (by exact Tryz.underlying3) t0;obtain⟨k1,f1,_,_⟩:=DataW.trod_int (by exact Tryz.underlying3) t1;obtain⟨k2,f2,_,_⟩:=DataW.trod_int (by exact Tryz.underlying3) t2;obtain⟨k3,f3,_,_⟩:=DataW.trod_int (by exact Tryz.underlying3) t3;simp only[List.cons.injEq,and_true]at f0 f1 f2 f3;exact⟨⟨k0,k1,k2,k3⟩,by rw[e0,f0],by rw[e1,f1],by rw[e2,f2],by rw[e3,f3]⟩
  haveI:Inhabited Fate:=⟨fateZ⟩
  obtain⟨R,hR⟩:=Deep.choose_lt aq;have ag:((List.range len).map R).length=len:=by simp
  refine⟨(List.range len).map R,ag,fun a ha=>?_,(fun e=>by cases e),by rw[ag];exact ab⟩;injection ha with ha;subst ha;refine⟨fun h0=>?_,fun j u hu=>?_⟩
  ·rw[ag]at h0;have c0:=(hR 0 h0).1;have:=World.block_lt_of_cell? _ _ c0;have a3:(ad.add (0*4)).block=ad.block:=by unfold Addr.add;split<;>rfl
   rw[a3]at this;exact this
  ·have hj:=(List.getElem?_eq_some_iff.1 hu).1;rw[fates_len,ag]at hj;have hk:j / 4<len:=by omega
   have hf:((List.range len).map R)[j / 4]?=some (R (j / 4)):=by rw[getElem?_map,getElem?_range hk];rfl
   obtain⟨d0,d1,d2,d3⟩:=hR (j / 4) hk;have av:=fun i hi=>fates_at _ (j / 4) _ i hf hi;rcases (by omega:j % 4=0\/j % 4=1\/j % 4=2\/j % 4=3)with h0|h0|h0|h0
   ·have ej:j=j / 4*4+0:=by omega
    rw[ej,av 0 (by omega)]at hu;rw[show j=j / 4*4 by omega,d0];exact hu
   ·have ej:j=j / 4*4+1:=by omega
    rw[ej,av 1 (by omega)]at hu;rw[ej,d1];exact hu
   ·have ej:j=j / 4*4+2:=by omega
    rw[ej,av 2 (by omega)]at hu;rw[ej,d2];exact hu
   ·have ej:j=j / 4*4+3:=by omega
    rw[ej,av 3 (by omega)]at hu;rw[ej,d3];exact hu
end DA
end
section
open Go.ChangeShapes Go.WideShapes Go.ChangeAt Go.RowKit Go.Lib
namespace DA
open OM TP TM DP DM DG
theorem wide_small{W:World}{ao:Option Addr}{ca:Nat}{ts:List Nd}(h:TL.Arg W ao ca ts):TW.Wide W ao ca ts/\TR.Small ts/\ts.length<=1048576 :=
 ⟨⟨h.lay,h.no,h.cap,fun n hn=>by have:=(h.small n hn).1;unfold maxLen;omega,by have:=h.len;unfold maxLen;omega⟩,h.small,h.len⟩
theorem edits_arg2{H:Type}{enc:TypeId×Value->H}{W:World}{spare:Nat->Bool}{held:Bool}{fuel len cap:Nat}{a0:Option Addr}{x:DataW H×List MemPlace}
  (h:DataW.trod enc Tryz.prog W 0 spare held fuel 24 [Value.slice a0 len cap]=some x) (hb:Rows.uptoBulk x.1<=1048576) :
  ∃(es:List Edit) (vs:List Ev),es.length=len/\EdArg W a0 cap es vs/\es.length<=1048576/\∀ e∈es,e.path.length<=1048576/\TR.Small e.value/\e.value.length<=maxLen:=by
 rcases open_threes Tryz.underlying24 Tryz.underlying86 (by kernel_rfl) rfl rfl rfl (by kernel_rfl) (by kernel_rfl) (by kernel_rfl) h with ac|⟨ad,al,am,n,D,sp,ac,hl,hm,hx,aa⟩
 ·simp at ac;obtain⟨rfl,rfl,rfl⟩:=ac;exact⟨[],[],rfl,⟨fun h0=>absurd h0 (by simp),rfl,(fun j e v h=>by simp at h),fun _=>rfl,by simp⟩,by simp,fun e he=>by cases he⟩
 ·simp at ac;obtain⟨rfl,rfl,rfl⟩:=ac;rw[hx,Rows.uptoBulk]at hb
  have ab:len<=1048576:=by
   have:=TF.bulk_len ((List.range len).map D);rw[List.length_map,List.length_range]at this;omega
  have aq:∀ i,i<len->∃ r:Edit×Ev,W.cell? (ad.add (i*3))=some (.int .i64 r.1.at_)/\W.cell? (ad.add (i*3+1))=some (txt r.1.path)/\W.cell? (ad.add (i*3+2))=some (.slice r.2.a r.1.value.length r.2.c)/\TW.Wide W r.2.a r.2.c r.1.value/\r.1.value.length<=1048576/\r.1.path.length<=1048576/\TR.Small r.1.value:=by
   intro i hi;obtain⟨v0,v1,v2,y0,y1,y2,e0,e1,e2,hD,t0,t1,t2⟩:=aa i hi;obtain⟨k0,f0,_,_⟩:=DataW.trod_int (by exact Tryz.underlying3) t0;obtain⟨s1,f1,g1,w1⟩:=DataW.trod_string (by exact Tryz.underlying9) t1;obtain⟨a2,l2,c2,rfl⟩:=slice_shape Tryz.underlying22 t2;have hm:=TF.bulk_mem (d:=D i) (l:=(List.range len).map D) (List.mem_map.2 ⟨i,List.mem_range.2 hi,rfl⟩);rw[hD,g1]at hm;simp only[Rows.uptoBulk,Rows.uptoBulkAll]at hm;obtain⟨ts,h2,hA⟩:=TF.nodes_arg (a0:=a2) (len:=l2) (cap:=c2) t2 (by omega);obtain⟨hW,hS,h4⟩:=wide_small hA;simp only[List.cons.injEq,and_true]at f0 f1;exact⟨⟨⟨k0,s1.data.toList,ts⟩,⟨a2,c2⟩⟩,by rw[e0,f0],by rw[e1,f1,txt_data],by rw[e2,← h2],hW,h4,by show s1.data.toList.length<=_;omega,hS⟩
  haveI:Inhabited (Edit×Ev):=⟨⟨⟨0,[],[]⟩,⟨none,0⟩⟩⟩
  obtain⟨R,hR⟩:=Deep.choose_lt aq;have ag:((List.range len).map fun i=>(R i).1).length=len:=by simp
  have a1:((List.range len).map fun i=>(R i).2).length=len:=by simp
  have ar:∀(k:Nat) (e:Edit),((List.range len).map fun i=>(R i).1)[k]?=some e->k<len/\e=(R k).1:=fun k e hk=>by
   have ai:k<len:=by have:=(List.getElem?_eq_some_iff.1 hk).1;rw[ag]at this;exact this
   rw[getElem?_map,getElem?_range ai]at hk;simp only[Option.map_some,Option.some.injEq]at hk;exact⟨ai,hk.symm⟩
  have ak:∀(k:Nat) (v:Ev),((List.range len).map fun i=>(R i).2)[k]?=some v->v=(R k).2:=fun k v hk=>by
   have ai:k<len:=by have:=(List.getElem?_eq_some_iff.1 hk).1;rw[a1]at this;exact this
   rw[getElem?_map,getElem?_range ai]at hk;simp only[Option.map_some,Option.some.injEq]at hk;exact hk.symm
  refine⟨(List.range len).map fun i=>(R i).1,(List.range len).map fun i=>(R i).2,ag,⟨fun h0=>?_,a1.trans ag.symm,fun j e v he hv=>?_,(fun e=>by cases e),by rw[ag];exact hl⟩,by rw[ag];exact ab,fun e he=>?_⟩
  ·rw[ag]at h0;obtain⟨b,off,aj⟩:=ad;have c0:=(hR 0 (by omega)).1;have ah:aj=none:=by simpa[Addr.add] using World.cell?_spot c0
   subst ah;rw[add_pl]at c0;refine⟨b,off,rfl,(World.block_lt_of_cell? _ _ c0 :),fun k e v hk hv=>?_⟩;obtain⟨ai,rfl⟩:=ar k e hk;obtain rfl:=ak k v hv;obtain⟨d0,d1,d2,_⟩:=hR k ai;rw[add_pl]at d0 d1 d2;exact⟨d0,by rw[<- d1,Nat.add_assoc],by rw[<- d2,Nat.add_assoc]⟩
  ·obtain⟨ai,rfl⟩:=ar j e he;obtain rfl:=ak j v hv;obtain⟨_,_,_,h1,h2,_,_⟩:=hR j ai;exact⟨h1,h2⟩
  ·obtain⟨i,hi,rfl⟩:=List.mem_map.1 he;obtain⟨_,_,_,h1,h2,h3,h4⟩:=hR i (List.mem_range.1 hi);exact⟨h3,h4,h1.max⟩
theorem weather_arg07{H:Type}{enc:TypeId×Value->H}{W:World}{r:Reach}{b0:Nat}{spare:Nat->Bool}{held:Bool}{v:Value}{d:DataW H}{p:List MemPlace}(hv:Value.okWide Tryz.prog W r b0 26 v)(h:DataW.Trod enc Tryz.prog W 0 spare held 26 v d p)(hb:Rows.uptoBulk d<=1048576) :
  ∃(af au:Option Addr) (cf cu:Nat) (fs:List Fate) (es:List Edit) (vs:List Ev),v=.agg #[.slice af fs.length cf,.slice au es.length cu] /\
   (∀ ad,af=some ad->(0<fs.length->ad.block<W.heap.size)/\∀(j:Nat) (u:Value),(fatesC fs)[j]?=some u->W.cell? (ad.add j)=some u)/\(af=none->fs.length=0/\cf=0)/\fs.length<=1048576 /\
   EdArg W au cu es vs/\es.length<=1048576/\∀ e∈es,e.path.length<=1048576/\TR.Small e.value/\e.value.length<=maxLen:=by
 obtain⟨v0,v1,y0,y1,n,rfl,rfl,_,t0,t1⟩:=Go.Joins.open_agg2 (P:=Tryz.prog) (t:=26) Tryz.underlying26 (by kernel_rfl) (by kernel_rfl) hv h;obtain⟨af,lf,cf,rfl⟩:=slice_shape Tryz.underlying23 t0;obtain⟨au,lu,cu,rfl⟩:=slice_shape Tryz.underlying24 t1;simp only[Rows.uptoBulk,Rows.uptoBulkAll]at hb;obtain⟨fs,rfl,h1,h2,h3⟩:=fates_arg t0 (by omega);obtain⟨es,vs,rfl,h4,h5,h6⟩:=edits_arg2 t1 (by omega);exact⟨af,au,cf,cu,fs,es,vs,rfl,h1,h2,h3,h4,h5,h6⟩
end DA
end
section
open Go.RowKit Go.Lib
open Go.ChangeShapes Go.WideShapes Go.ChangeAt
namespace DA
open OM TP TM DG
theorem calls_bulk{H:Type}{enc:TypeId×Value->H}{W:World}{spare:Nat->Bool}{held:Bool}{fuel len cap:Nat}{a0:Option Addr}{x:DataW H×List MemPlace}
  (h:DataW.trod enc Tryz.prog W 0 spare held fuel 27 (Value.slice a0 len cap).cells.toList=some x) (hb:Rows.uptoBulk x.1<=1048576) :
  ∃ cs:List Cal,cs.length=len/\len<=cap/\len<=maxLen/\LayC W a0 cs/\∀ c∈cs,c.path.length<=1048576/\c.dest.length<=1048576:=by
 rcases open_fives Tryz.underlying27 Tryz.underlying43 (by kernel_rfl) rfl rfl rfl rfl rfl (by kernel_rfl) (by kernel_rfl) (by kernel_rfl) (by kernel_rfl) (by kernel_rfl) h with ac|⟨ad,al,am,n,D,sp,ac,hl,hm,hx,aa⟩
 ·simp[Value.cells]at ac;obtain⟨rfl,rfl,rfl⟩:=ac;exact⟨[],rfl,Nat.le_refl _,Nat.zero_le _,fun h0=>absurd h0 (by simp),fun c hc=>by cases hc⟩
 ·simp[Value.cells]at ac;obtain⟨rfl,rfl,rfl⟩:=ac;rw[hx,Rows.uptoBulk]at hb;have ab:len<=maxLen:=Nat.le_trans hl hm
  have aq:∀ i,i<len->∃ r:Cal,W.cell? (ad.add (i*5))=some (.int .i64 r.what)/\W.cell? (ad.add (i*5+1))=some (txt r.path)/\W.cell? (ad.add (i*5+2))=some (txt r.dest)/\W.cell? (ad.add (i*5+3))=some (txt r.data)/\W.cell? (ad.add (i*5+4))=some (.int .i64 r.mode)/\r.path.length<=1048576/\r.dest.length<=1048576:=by
   intro i hi;obtain⟨v0,v1,v2,v3,v4,y0,y1,y2,y3,y4,e0,e1,e2,e3,e4,hD,t0,t1,t2,t3,t4⟩:=aa i hi;obtain⟨k0,f0,_,_⟩:=DataW.trod_int (by exact Tryz.underlying3) t0;obtain⟨s1,f1,g1,w1⟩:=DataW.trod_string (by exact Tryz.underlying9) t1;obtain⟨s2,f2,g2,w2⟩:=DataW.trod_string (by exact Tryz.underlying9) t2;obtain⟨s3,f3,g3,w3⟩:=DataW.trod_string (by exact Tryz.underlying9) t3;obtain⟨k4,f4,_,_⟩:=DataW.trod_int (by exact Tryz.underlying3) t4;have hm:=TF.bulk_mem (d:=D i) (l:=(List.range len).map D) (List.mem_map.2 ⟨i,List.mem_range.2 hi,rfl⟩);rw[hD,g1,g2]at hm;simp only[Rows.uptoBulk,Rows.uptoBulkAll]at hm;simp only[List.cons.injEq,and_true]at f0 f1 f2 f3 f4;exact⟨⟨k0,s1.data.toList,s2.data.toList,s3.data.toList,k4⟩,by rw[e0,f0],by rw[e1,f1,txt_data],by rw[e2,f2,txt_data],by rw[e3,f3,txt_data],by rw[e4,f4],by show s1.data.toList.length<=_;omega,by show s2.data.toList.length<=_;omega⟩
  haveI:Inhabited Cal:=⟨⟨0,[],[],[],0⟩⟩
  obtain⟨R,hR⟩:=Deep.choose_lt aq;have ag:((List.range len).map R).length=len:=by simp
  refine⟨(List.range len).map R,ag,hl,ab,fun h0=>?_,fun c hc=>?_⟩
  ·rw[ag]at h0;obtain⟨b,off,aj⟩:=ad;have c0:=(hR 0 (by omega)).1;have ah:aj=none:=by simpa[Addr.add] using World.cell?_spot c0
   subst ah;rw[add_pl]at c0;refine⟨b,off,rfl,(World.block_lt_of_cell? _ _ c0 :),fun k r hk=>?_⟩;have ai:k<len:=by have:=(List.getElem?_eq_some_iff.1 hk).1;rw[ag]at this;exact this
   rw[getElem?_map,getElem?_range ai]at hk;simp only[Option.map_some,Option.some.injEq]at hk;subst hk;obtain⟨d0,d1,d2,d3,d4,_⟩:=hR k ai;rw[add_pl]at d0 d1 d2 d3 d4;exact⟨d0,by rw[<- d1,Nat.add_assoc],by rw[<- d2,Nat.add_assoc],by rw[<- d3,Nat.add_assoc],by rw[<- d4,Nat.add_assoc]⟩
  ·obtain⟨i,hi,rfl⟩:=List.mem_map.1 hc;have:=hR i (List.mem_range.1 hi);exact this.2.2.2.2.2
end DA
end
end Go.Proofs.YtkmcjededpamnaaGreatDoor
