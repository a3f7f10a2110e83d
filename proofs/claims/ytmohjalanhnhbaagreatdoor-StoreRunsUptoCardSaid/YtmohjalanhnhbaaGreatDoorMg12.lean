/- Texts of this seat, put one behind the other: what its statements share (part 12). -/
import Derived.Test.YtmohjalanhnhbaaGreatDoorMg1
import Derived.Test.YtmohjalanhnhbaaGreatDoorMg11
import Derived.Test.YtmohjalanhnhbaaGreatDoorNameFrame
import Derived.Test.YtmohjalanhnhbaaGreatDoorKit
import Derived.Deep.Slices
import Derived.Deep.SlicePairs
import Derived.Lib.SmallJoins
import Derived.Test.YtmohjalanhnhbaaGreatDoorArg
set_option linter.all false
set_option maxRecDepth 100000
set_option maxHeartbeats 25600000
section
namespace Go.Proofs.YtmohjalanhnhbaaGreatDoor
open Go.ChangeShapes Go.WideShapes Go.ChangeAt Go.RowKit Go.Lib
namespace DA
open OM TP TM
end DA
end Go.Proofs.YtmohjalanhnhbaaGreatDoor
end

section
namespace Go.Proofs.YtmohjalanhnhbaaGreatDoor
open Go.RowKit Go.Lib
namespace DG
open OM TP TM DP DM
end DG
open Go.ChangeShapes Go.WideShapes Go.ChangeAt
namespace DA
open OM TP TM DG
section
open Go.Deep
variable {H:Type} {enc:TypeId×Value->H} {P:Program} {w:World} {base:Nat} {spare:Nat->Bool} {held:Bool}
end
theorem add_pl (b off k:Nat):(⟨b,off,none⟩:Addr).add k=⟨b,off+k,none⟩:=by unfold Addr.add;split<;>simp_all
end DA
end Go.Proofs.YtmohjalanhnhbaaGreatDoor
end

section
namespace Go.Proofs.YtmohjalanhnhbaaGreatDoor
open Go.ChangeShapes Go.WideShapes Go.ChangeAt Go.RowKit Go.Lib
namespace DA
open OM TP TM DP DM DG
section
open Go.Deep
variable {H:Type} {enc:TypeId×Value->H} {P:Program} {w:World} {base:Nat} {spare:Nat->Bool} {held:Bool}
theorem open_threes {t e:TypeId} {f0 f1 f2:Field} {fuel:Nat} {cs:List Value} {x:DataW H×List MemPlace} (ht:P.underlying t=some (.slice e)) (he:P.underlying e=some (.struct #[f0,f1,f2]))
  (ce:P.cellsOf e=3) (o0:f0.offset=0) (o1:f1.offset=1) (o2:f2.offset=2) (c0:P.cellsOf f0.type=1) (c1:P.cellsOf f1.type=1) (c2:P.cellsOf f2.type=1)
  (h:DataW.trod enc P w base spare held fuel t cs=some x) :
  cs=[.slice none 0 0] ∨
  ∃ (a:Addr) (len cap n:Nat) (D:Nat->DataW H) (sp:List (DataW H)),cs=[.slice (some a) len cap]/\len<=cap/\cap<=maxLen/\x.1=.slice ((List.range len).map D) sp /\
   ∀ i,i<len->∃ (v0 v1 v2:Value) (y0 y1 y2:DataW H×List MemPlace),w.cell? (a.add (i*3))=some v0/\w.cell? (a.add (i*3+1))=some v1/\w.cell? (a.add (i*3+2))=some v2 /\
    D i=.agg [y0.1,y1.1,y2.1] /\
    DataW.trod enc P w base spare held n f0.type [v0]=some y0/\DataW.trod enc P w base spare held n f1.type [v1]=some y1/\DataW.trod enc P w base spare held n f2.type [v2]=some y2:=by
 rcases open_slice ht h with h0|⟨a,len,cap,m,n,D,Pl,rfl,hb,hl,hm,hmm,rfl,hx⟩
 ·exact Or.inl h0.1
 right
 have hlm:len<=m:=by rw [hmm];split<;>omega
 refine⟨a,len,cap,n-1,D,_,rfl,hl,hm,rfl,fun i hi=>?_⟩
 obtain⟨cs',h1,h2⟩:=hx i (by omega)
 rw [ce] at h1
 obtain⟨_,hlen,hcell⟩:=World.cells?_some h1
 obtain⟨xs,k,hk,hxy,_,hxl,hf⟩:=DataW.trod_struct he h2
 have hk':k=n-1:=by omega
 subst hk'
 match xs,hxl,cs',hlen with
 | [y0,y1,y2],_,[v0,v1,v2],_ =>
  have g0:=hf 0 f0 rfl
  have g1:=hf 1 f1 rfl
  have g2:=hf 2 f2 rfl
  simp [o0,o1,o2,c0,c1,c2] at g0 g1 g2
  have e0:=hcell 0 (by omega)
  have e1:=hcell 1 (by omega)
  have e2:=hcell 2 (by omega)
  rw [add_add] at e0 e1 e2
  simp only [Prod.mk.injEq] at hxy
  exact⟨v0,v1,v2,y0,y1,y2,by simpa using e0,by simpa using e1,by simpa using e2,hxy.1,g0,g1,g2⟩
theorem slice_shape {t e:TypeId} {fuel:Nat} {v:Value} {x:DataW H×List MemPlace} (ht:P.underlying t=some (.slice e)) (h:DataW.trod enc P w base spare held fuel t [v]=some x):∃ a len cap,v=.slice a len cap:=by
 rcases open_slice ht h with h0|⟨a,len,cap,m,n,D,Pl,h1,_⟩
 ·have:=h0.1
  simp only [List.cons.injEq,and_true] at this
  exact⟨_,_,_,this⟩
 ·simp only [List.cons.injEq,and_true] at h1
  exact⟨_,_,_,h1⟩
end
theorem fates_at:∀ (fs:List Fate) (k:Nat) (f:Fate) (i:Nat),fs[k]?=some f->i<4->(fatesC fs)[k*4+i]?=(fateC f)[i]?
 | a::fs,0,f,i,h,hi=>by
  simp at h
  subst h
  show (fateC a++fatesC fs)[0*4+i]?=_
  rw [List.getElem?_append_left (by show _<4;omega),Nat.zero_mul,Nat.zero_add]
 | a::fs,k+1,f,i,h,hi=>by
  have ih:=fates_at fs k f i (by simpa using h) hi
  show (fateC a++fatesC fs)[(k+1)*4+i]?=_
  rw [List.getElem?_append_right (by show 4<=_;omega),← ih]
  congr 1
  show (k+1)*4+i-4=_
  omega
theorem fates_arg {H:Type} {enc:TypeId×Value->H} {W:World} {spare:Nat->Bool} {held:Bool} {fuel len cap:Nat} {a0:Option Addr} {x:DataW H×List MemPlace}
  (h:DataW.trod enc Tryz.prog W 0 spare held fuel 23 [Value.slice a0 len cap]=some x) (hb:Rows.uptoBulk x.1<=1048576) :
  ∃ fs:List Fate,fs.length=len/\(∀ ad,a0=some ad->(0<fs.length->ad.block<W.heap.size)/\∀ (j:Nat) (u:Value),(fatesC fs)[j]?=some u->W.cell? (ad.add j)=some u)/\(a0=none->fs.length=0/\cap=0)/\fs.length<=1048576:=by
 rcases TF.open_fours Tryz.underlying23 Tryz.underlying116 (by kernel_rfl) rfl rfl rfl rfl (by kernel_rfl) (by kernel_rfl) (by kernel_rfl) (by kernel_rfl) h with hcs|⟨ad,len',cap',n,D,sp,hcs,hl,hm,hx,hcell⟩
 ·simp at hcs
  obtain⟨rfl,rfl,rfl⟩:=hcs
  exact⟨[],rfl,(fun ad h=>by cases h),(fun _=>⟨rfl,rfl⟩),by simp⟩
 ·simp at hcs
  obtain⟨rfl,rfl,rfl⟩:=hcs
  rw [hx,Rows.uptoBulk] at hb
  have hlen:len<=1048576:=by
   have:=TF.bulk_len ((List.range len).map D)
   rw [List.length_map,List.length_range] at this
   omega
  have hch:∀ i,i<len->∃ r:Fate,W.cell? (ad.add (i*4))=some (.int .i64 r.at_)/\W.cell? (ad.add (i*4+1))=some (.int .i64 r.what)/\W.cell? (ad.add (i*4+2))=some (.int .i64 r.keep)/\W.cell? (ad.add (i*4+3))=some (.int .i64 r.torn):=by
   intro i hi
   obtain⟨v0,v1,v2,v3,y0,y1,y2,y3,e0,e1,e2,e3,hD,t0,t1,t2,t3⟩:=hcell i hi
   obtain⟨k0,f0,_,_⟩:=DataW.trod_int (by exact Tryz.underlying3) t0
   obtain⟨k1,f1,_,_⟩:=DataW.trod_int (by exact Tryz.underlying3) t1
   obtain⟨k2,f2,_,_⟩:=DataW.trod_int (by exact Tryz.underlying3) t2
   obtain⟨k3,f3,_,_⟩:=DataW.trod_int (by exact Tryz.underlying3) t3
   simp only [List.cons.injEq,and_true] at f0 f1 f2 f3
   exact⟨⟨k0,k1,k2,k3⟩,by rw [e0,f0],by rw [e1,f1],by rw [e2,f2],by rw [e3,f3]⟩
  haveI:Inhabited Fate:=⟨fateZ⟩
  obtain⟨R,hR⟩:=Deep.choose_lt hch
  have hrl:((List.range len).map R).length=len:=by simp
  refine⟨(List.range len).map R,hrl,fun a ha=>?_,(fun e=>by cases e),by rw [hrl];exact hlen⟩
  injection ha with ha
  subst ha
  refine⟨fun h0=>?_,fun j u hu=>?_⟩
  ·rw [hrl] at h0
   have c0:=(hR 0 h0).1
   have:=World.block_lt_of_cell? _ _ c0
   have hab:(ad.add (0*4)).block=ad.block:=by unfold Addr.add;split<;>rfl
   rw [hab] at this
   exact this
  ·have hj:=(List.getElem?_eq_some_iff.1 hu).1
   rw [fates_len,hrl] at hj
   have hk:j / 4<len:=by omega
   have hf:((List.range len).map R)[j / 4]?=some (R (j / 4)):=by rw [List.getElem?_map,List.getElem?_range hk];rfl
   obtain⟨d0,d1,d2,d3⟩:=hR (j / 4) hk
   have hat:=fun i hi=>fates_at _ (j / 4) _ i hf hi
   rcases (by omega:j % 4=0∨j % 4=1∨j % 4=2∨j % 4=3) with h0|h0|h0|h0
   ·have ej:j=j / 4*4+0:=by omega
    rw [ej,hat 0 (by omega)] at hu
    rw [show j=j / 4*4 by omega,d0]
    exact hu
   ·have ej:j=j / 4*4+1:=by omega
    rw [ej,hat 1 (by omega)] at hu
    rw [ej,d1]
    exact hu
   ·have ej:j=j / 4*4+2:=by omega
    rw [ej,hat 2 (by omega)] at hu
    rw [ej,d2]
    exact hu
   ·have ej:j=j / 4*4+3:=by omega
    rw [ej,hat 3 (by omega)] at hu
    rw [ej,d3]
    exact hu
end DA
end Go.Proofs.YtmohjalanhnhbaaGreatDoor
end

section
namespace Go.Proofs.YtmohjalanhnhbaaGreatDoor
open Go.ChangeShapes Go.WideShapes Go.ChangeAt Go.RowKit Go.Lib
namespace DA
open OM TP TM DP DM DG
theorem wide_small {W:World} {ao:Option Addr} {ca:Nat} {ts:List Nd} (h:TL.Arg W ao ca ts):TW.Wide W ao ca ts/\TR.Small ts/\ts.length<=1048576 :=
 ⟨⟨h.lay,h.no,h.cap,fun n hn=>by have:=(h.small n hn).1;unfold maxLen;omega,by have:=h.len;unfold maxLen;omega⟩,h.small,h.len⟩
theorem edits_arg2 {H:Type} {enc:TypeId×Value->H} {W:World} {spare:Nat->Bool} {held:Bool} {fuel len cap:Nat} {a0:Option Addr} {x:DataW H×List MemPlace}
  (h:DataW.trod enc Tryz.prog W 0 spare held fuel 24 [Value.slice a0 len cap]=some x) (hb:Rows.uptoBulk x.1<=1048576) :
  ∃ (es:List Edit) (vs:List Ev),es.length=len/\EdArg W a0 cap es vs/\es.length<=1048576/\∀ e∈es,e.path.length<=1048576/\TR.Small e.value/\e.value.length<=maxLen:=by
 rcases open_threes Tryz.underlying24 Tryz.underlying86 (by kernel_rfl) rfl rfl rfl (by kernel_rfl) (by kernel_rfl) (by kernel_rfl) h with hcs|⟨ad,len',cap',n,D,sp,hcs,hl,hm,hx,hcell⟩
 ·simp at hcs
  obtain⟨rfl,rfl,rfl⟩:=hcs
  exact⟨[],[],rfl,⟨fun h0=>absurd h0 (by simp),rfl,(fun j e v h=>by simp at h),fun _=>rfl,by simp⟩,by simp,fun e he=>by cases he⟩
 ·simp at hcs
  obtain⟨rfl,rfl,rfl⟩:=hcs
  rw [hx,Rows.uptoBulk] at hb
  have hlen:len<=1048576:=by
   have:=TF.bulk_len ((List.range len).map D)
   rw [List.length_map,List.length_range] at this
   omega
  have hch:∀ i,i<len->∃ r:Edit×Ev,W.cell? (ad.add (i*3))=some (.int .i64 r.1.at_)/\W.cell? (ad.add (i*3+1))=some (txt r.1.path)/\W.cell? (ad.add (i*3+2))=some (.slice r.2.a r.1.value.length r.2.c)/\TW.Wide W r.2.a r.2.c r.1.value/\r.1.value.length<=1048576/\r.1.path.length<=1048576/\TR.Small r.1.value:=by
   intro i hi
   obtain⟨v0,v1,v2,y0,y1,y2,e0,e1,e2,hD,t0,t1,t2⟩:=hcell i hi
   obtain⟨k0,f0,_,_⟩:=DataW.trod_int (by exact Tryz.underlying3) t0
   obtain⟨s1,f1,g1,w1⟩:=DataW.trod_string (by exact Tryz.underlying9) t1
   obtain⟨a2,l2,c2,rfl⟩:=slice_shape Tryz.underlying22 t2
   have hm:=TF.bulk_mem (d:=D i) (l:=(List.range len).map D) (List.mem_map.2 ⟨i,List.mem_range.2 hi,rfl⟩)
   rw [hD,g1] at hm
   simp only [Rows.uptoBulk,Rows.uptoBulkAll] at hm
   obtain⟨ts,h2,hA⟩:=TF.nodes_arg (a0:=a2) (len:=l2) (cap:=c2) t2 (by omega)
   obtain⟨hW,hS,h4⟩:=wide_small hA
   simp only [List.cons.injEq,and_true] at f0 f1
   exact⟨⟨⟨k0,s1.data.toList,ts⟩,⟨a2,c2⟩⟩,by rw [e0,f0],by rw [e1,f1,txt_data],by rw [e2,← h2],hW,h4,by show s1.data.toList.length<=_;omega,hS⟩
  haveI:Inhabited (Edit×Ev):=⟨⟨⟨0,[],[]⟩,⟨none,0⟩⟩⟩
  obtain⟨R,hR⟩:=Deep.choose_lt hch
  have hrl:((List.range len).map fun i=>(R i).1).length=len:=by simp
  have hvl:((List.range len).map fun i=>(R i).2).length=len:=by simp
  have get1:∀ (k:Nat) (e:Edit),((List.range len).map fun i=>(R i).1)[k]?=some e->k<len/\e=(R k).1:=fun k e hk=>by
   have hkl:k<len:=by have:=(List.getElem?_eq_some_iff.1 hk).1;rw [hrl] at this;exact this
   rw [List.getElem?_map,List.getElem?_range hkl] at hk
   simp only [Option.map_some,Option.some.injEq] at hk
   exact⟨hkl,hk.symm⟩
  have get2:∀ (k:Nat) (v:Ev),((List.range len).map fun i=>(R i).2)[k]?=some v->v=(R k).2:=fun k v hk=>by
   have hkl:k<len:=by have:=(List.getElem?_eq_some_iff.1 hk).1;rw [hvl] at this;exact this
   rw [List.getElem?_map,List.getElem?_range hkl] at hk
   simp only [Option.map_some,Option.some.injEq] at hk
   exact hk.symm
  refine⟨(List.range len).map fun i=>(R i).1,(List.range len).map fun i=>(R i).2,hrl,⟨fun h0=>?_,hvl.trans hrl.symm,fun j e v he hv=>?_,(fun e=>by cases e),by rw [hrl];exact hl⟩,by rw [hrl];exact hlen,fun e he=>?_⟩
  ·rw [hrl] at h0
   obtain⟨b,off,spot⟩:=ad
   have c0:=(hR 0 (by omega)).1
   have hspot:spot=none:=by simpa [Addr.add] using World.cell?_spot c0
   subst hspot
   rw [add_pl] at c0
   refine⟨b,off,rfl,(World.block_lt_of_cell? _ _ c0 :),fun k e v hk hv=>?_⟩
   obtain⟨hkl,rfl⟩:=get1 k e hk
   obtain rfl:=get2 k v hv
   obtain⟨d0,d1,d2,_⟩:=hR k hkl
   rw [add_pl] at d0 d1 d2
   exact⟨d0,by rw [<- d1,Nat.add_assoc],by rw [<- d2,Nat.add_assoc]⟩
  ·obtain⟨hkl,rfl⟩:=get1 j e he
   obtain rfl:=get2 j v hv
   obtain⟨_,_,_,h1,h2,_,_⟩:=hR j hkl
   exact⟨h1,h2⟩
  ·obtain⟨i,hi,rfl⟩:=List.mem_map.1 he
   obtain⟨_,_,_,h1,h2,h3,h4⟩:=hR i (List.mem_range.1 hi)
   exact⟨h3,h4,h1.max⟩
theorem weather_arg07 {H:Type} {enc:TypeId×Value->H} {W:World} {r:Reach} {b0:Nat} {spare:Nat->Bool} {held:Bool} {v:Value} {d:DataW H} {p:List MemPlace} (hv:Value.okWide Tryz.prog W r b0 26 v) (h:DataW.Trod enc Tryz.prog W 0 spare held 26 v d p) (hb:Rows.uptoBulk d<=1048576) :
  ∃ (af au:Option Addr) (cf cu:Nat) (fs:List Fate) (es:List Edit) (vs:List Ev),v=.agg #[.slice af fs.length cf,.slice au es.length cu] /\
   (∀ ad,af=some ad->(0<fs.length->ad.block<W.heap.size)/\∀ (j:Nat) (u:Value),(fatesC fs)[j]?=some u->W.cell? (ad.add j)=some u)/\(af=none->fs.length=0/\cf=0)/\fs.length<=1048576 /\
   EdArg W au cu es vs/\es.length<=1048576/\∀ e∈es,e.path.length<=1048576/\TR.Small e.value/\e.value.length<=maxLen:=by
 obtain⟨v0,v1,y0,y1,n,rfl,rfl,_,t0,t1⟩:=Go.Joins.open_agg2 (P:=Tryz.prog) (t:=26) Tryz.underlying26 (by kernel_rfl) (by kernel_rfl) hv h
 obtain⟨af,lf,cf,rfl⟩:=slice_shape Tryz.underlying23 t0
 obtain⟨au,lu,cu,rfl⟩:=slice_shape Tryz.underlying24 t1
 simp only [Rows.uptoBulk,Rows.uptoBulkAll] at hb
 obtain⟨fs,rfl,h1,h2,h3⟩:=fates_arg t0 (by omega)
 obtain⟨es,vs,rfl,h4,h5,h6⟩:=edits_arg2 t1 (by omega)
 exact⟨af,au,cf,cu,fs,es,vs,rfl,h1,h2,h3,h4,h5,h6⟩
theorem weather_arg10 {H:Type} {enc:TypeId×Value->H} {W:World} {r:Reach} {b0:Nat} {spare:Nat->Bool} {held:Bool} {v:Value} {d:DataW H} {p:List MemPlace} (hv:Value.okWide Tryz.prog W r b0 62 v) (h:DataW.Trod enc Tryz.prog W 0 spare held 62 v d p) (hb:Rows.uptoBulk d<=1048576) :
  ∃ (af au:Option Addr) (cf cu:Nat) (fs:List Fate) (es:List Edit) (vs:List Ev),v=.agg #[.slice af fs.length cf,.slice au es.length cu] /\
   (∀ ad,af=some ad->(0<fs.length->ad.block<W.heap.size)/\∀ (j:Nat) (u:Value),(fatesC fs)[j]?=some u->W.cell? (ad.add j)=some u)/\(af=none->fs.length=0/\cf=0)/\fs.length<=1048576 /\
   EdArg W au cu es vs/\es.length<=1048576/\∀ e∈es,e.path.length<=1048576/\TR.Small e.value/\e.value.length<=maxLen:=by
 obtain⟨v0,v1,y0,y1,n,rfl,rfl,_,t0,t1⟩:=Go.Joins.open_agg2 (P:=Tryz.prog) (t:=62) Tryz.underlying62 (by kernel_rfl) (by kernel_rfl) hv h
 obtain⟨af,lf,cf,rfl⟩:=slice_shape Tryz.underlying23 t0
 obtain⟨au,lu,cu,rfl⟩:=slice_shape Tryz.underlying24 t1
 simp only [Rows.uptoBulk,Rows.uptoBulkAll] at hb
 obtain⟨fs,rfl,h1,h2,h3⟩:=fates_arg t0 (by omega)
 obtain⟨es,vs,rfl,h4,h5,h6⟩:=edits_arg2 t1 (by omega)
 exact⟨af,au,cf,cu,fs,es,vs,rfl,h1,h2,h3,h4,h5,h6⟩
end DA
end Go.Proofs.YtmohjalanhnhbaaGreatDoor
end
