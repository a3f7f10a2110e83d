import Derived.Test.YtkmcjededpamnaaGreatDoorMg6
import Derived.BigRegion
import Derived.Lib.MinMax
import Derived.Test.YtkmcjededpamnaaGreatDoorArg
set_option linter.all false
set_option maxRecDepth 100000
set_option maxHeartbeats 0
namespace Go.Proofs.YtkmcjededpamnaaGreatDoor
open List(length_append getElem?_eq_getElem length_take mem_of_getElem? length_map take_add_one length_cons length_singleton map_append getD_eq_getElem?_getD mem_append_left mem_append_right filter_append length_filter_le getElem?_map length_nil find?_cons)
section
open Go.RowKit Go.Lib
namespace DM
open OM TP TM DP FP DG
structure Ch where
 a:Option Addr
 c:Nat
 l:List Nd
def chV(e:Ch):Value:=.slice e.a e.l.length e.c
structure Ev where
 a:Option Addr
 c:Nat
structure Parts where
 vn:Value
 vs:Value
 vc:Value
 vf:Value
 ve:Value
 vt:Value
 cs:List Ch
 evs:List Ev
def fateC(f:Fate):List Value:=[.int .i64 f.at_,.int .i64 f.what,.int .i64 f.keep,.int .i64 f.torn]
def didC(c:Did):List Value:=[txt c.call,txt c.path,txt c.to]
def editV(e:Edit×Ev):List Value:=[.int .i64 e.1.at_,txt e.1.path,.slice e.2.a e.1.value.length e.2.c]
def fatesC(fs:List Fate):List Value:=fs.flatMap fateC
def didsC(cs:List Did):List Value:=cs.flatMap didC
def editsC(es:List Edit)(vs:List Ev):List Value:=(es.zip vs).flatMap editV
def laterOf:List Nd->List (List Nd)->List (List Nd)
 | _,[]=>[]
 | s,c::r=>withE s c::laterOf (withE s c) r
def endOf(s:List Nd)(cs:List (List Nd)):List Nd:=cs.foldl withE s
theorem later_snoc:∀(cs:List (List Nd)) (s c:List Nd),laterOf s (cs++[c])=laterOf s cs++[withE (endOf s cs) c]
 | [],_,_=>rfl
 | d::cs,s,c=>by
  show withE s d::laterOf (withE s d) (cs++[c])=withE s d::(laterOf (withE s d) cs++[withE (endOf (withE s d) cs) c]);rw[later_snoc cs]
theorem end_snoc(s:List Nd)(cs:List (List Nd))(c:List Nd):endOf s (cs++[c])=withE (endOf s cs) c:=by unfold endOf;rw[List.foldl_append];rfl
theorem later_len:∀(cs:List (List Nd)) (s:List Nd),(laterOf s cs).length=cs.length
 | [],_=>rfl
 | d::cs,s=>by
  show(laterOf (withE s d) cs).length+1=_;rw[later_len cs];rfl
theorem later_get:∀(cs:List (List Nd)) (s:List Nd) (k:Nat),k<cs.length->(laterOf s cs)[k]?=some (endOf s (cs.take (k+1)))
 | d::cs,s,0,_=>rfl
 | d::cs,s,k+1,h=>by
  show(laterOf (withE s d) cs)[k]?=_;rw[later_get cs (withE s d) k (by simpa using h)];rfl
def liveL(D:Dk):List Nd:=D.names++(D.safe++D.later.flatten)
def IsT(W:World)(k:Nat)(t:TypeId):Prop:=∃ c fz,W.heap[k]?=some (.cells c t fz)
theorem IsT.same{W W':World}{k:Nat}{t:TypeId}(h:IsT W k t)(hb:W'.heap[k]?=W.heap[k]?):IsT W' k t:=by
 obtain⟨c,fz,h⟩:=h;exact⟨c,fz,hb.trans h⟩
theorem IsT.ne{W:World}{k g:Nat}{t u:TypeId}(h:IsT W k t)(h2:IsT W g u)(av:t≠u):k≠g:=by
 rintro rfl;obtain⟨c,fz,h⟩:=h;obtain⟨c2,fQ,h2⟩:=h2;rw[h]at h2;injection h2 with h2;injection h2 with _ h2 _;exact av h2
theorem own_same{W W':World}{b e size:Nat}{v:Value}{n:Nat}{xs:List Value}(h:W.ownsRow b e size v n xs)(hb:∀ g,v.ownBlock=some g->W'.heap[g]?=W.heap[g]?):W'.ownsRow b e size v n xs:=by
 refine⟨h.1,?_⟩;rcases h.2 with hn|⟨g,cap,be,rfl,fl,cy,rest⟩
 ·exact .inl hn
 ·exact .inr ⟨g,cap,be,rfl,fl,(hb g rfl).trans cy,rest⟩
theorem own_type{W:World}{b e size:Nat}{v:Value}{n:Nat}{xs:List Value}(h:W.ownsRow b e size v n xs):∀ g,v.ownBlock=some g->IsT W g e:=fun g hg=>by
 obtain⟨c,fz,h⟩:=owns_kind h g hg;exact⟨c,fz,h⟩
theorem layI_same{W W':World}{adr:Int->Nat}{ns:List Nd}{I:List Ino}(h:LayI W adr ns I)(hb:∀ e∈ns,e.kind≠0->W'.heap[adr e.kind]?=W.heap[adr e.kind]?):LayI W' adr ns I:=fun e he hk=>(hb e he hk).trans (h e he hk)
theorem ino_type{W:World}{g:Nat}{k:Int}{i:Ino}(h:InoAt W g k i):IsT W g 173:=⟨_,_,h⟩
structure Rest(S:Nat->Prop)(W:World)(D:Dk)(adr:Int->Nat)(pend:List Nd)(x:Parts):Prop where
 names:OwnE W adr x.vn D.names
 nin:∀ g,x.vn.ownBlock=some g->S g
 safe:OwnE W adr x.vs D.safe
 sin:∀ g,x.vs.ownBlock=some g->S g
 apart:∀ g,x.vn.ownBlock=some g->x.vs.ownBlock≠some g
 ch:W.ownsRow 0 118 1 x.vc x.cs.length (x.cs.map chV)
 chin:∀ g,x.vc.ownBlock=some g->S g
 each:∀ e∈x.cs,LayE W adr e.a e.l/\SmallE e.l/\∀ a,e.a=some a->S a.block/\IsT W a.block 125/\x.vn.ownBlock≠some a.block/\x.vs.ownBlock≠some a.block
 crow:∀ e∈x.cs,CRow D.inos.length e.l
 later:D.later=laterOf D.safe (x.cs.map (·.l))
 ends:D.names=endOf D.safe (x.cs.map (·.l))
 lens:∀ j c,(x.cs.map (·.l))[j]?=some c->c.length<=1000000/\∀ k,(withE (endOf D.safe ((x.cs.map (·.l)).take j)) (c.take k)).length<=1000
 inos:LayI W adr (pend++liveL D) D.inos
 iin:∀ e∈pend++liveL D,e.kind≠0->S (adr e.kind)
 inj:∀ e∈pend++liveL D,∀ f∈pend++liveL D,e.kind≠0->f.kind≠0->adr e.kind=adr f.kind->e.kind=f.kind
 fates:W.ownsRow 0 116 4 x.vf D.fates.length (fatesC D.fates)
 fin:∀ g,x.vf.ownBlock=some g->S g
 edits:W.ownsRow 0 86 3 x.ve D.edits.length (editsC D.edits x.evs)
 ein:∀ g,x.ve.ownBlock=some g->S g
 elen:x.evs.length=D.edits.length
 vals:∀(j:Nat) e v,D.edits[j]?=some e->x.evs[j]?=some v->W.ownsRow 0 45 4 (.slice v.a e.value.length v.c) e.value.length (nodesC e.value)/\∀ a,v.a=some a->S a.block
 trace:W.ownsRow 0 75 3 x.vt D.trace.length (didsC D.trace)
 tin:∀ g,x.vt.ownBlock=some g->S g
theorem Rest.keep{S:Nat->Prop}{W W':World}{D:Dk}{adr:Int->Nat}{pend:List Nd}{x:Parts}(h:Rest S W D adr pend x)(hs:W.heap.size<=W'.heap.size)(hk:∀ k,S k->W'.heap[k]?=W.heap[k]?):Rest S W' D adr pend x where
 names:=own_same h.names fun g hg=>hk g (h.nin g hg)
 nin:=h.nin
 safe:=own_same h.safe fun g hg=>hk g (h.sin g hg)
 sin:=h.sin
 apart:=h.apart
 ch:=own_same h.ch fun g hg=>hk g (h.chin g hg)
 chin:=h.chin
 each:=fun e he=>by
  obtain⟨h1,h2,h3⟩:=h.each e he;exact⟨h1.same hs (fun a ha _=>hk _ (h3 a ha).1),h2,fun a ha=>⟨(h3 a ha).1,(h3 a ha).2.1.same (hk _ (h3 a ha).1),(h3 a ha).2.2⟩⟩
 crow:=h.crow
 later:=h.later
 ends:=h.ends
 lens:=h.lens
 inos:=layI_same h.inos fun e he h0=>hk _ (h.iin e he h0)
 iin:=h.iin
 inj:=h.inj
 fates:=own_same h.fates fun g hg=>hk g (h.fin g hg)
 fin:=h.fin
 edits:=own_same h.edits fun g hg=>hk g (h.ein g hg)
 ein:=h.ein
 elen:=h.elen
 vals:=fun j e v he hv=>by
  obtain⟨h1,h2⟩:=h.vals j e v he hv;refine⟨own_same h1 fun g hg=>?_,h2⟩
  cases ha:v.a with
  | none=>rw[ha]at hg;cases hg
  | some a =>
   rw[ha]at hg;injection hg with hg;rw[<- hg];exact hk _ (h2 a ha)
 trace:=own_same h.trace fun g hg=>hk g (h.tin g hg)
 tin:=h.tin
theorem Rest.sup{S T:Nat->Prop}{W:World}{D:Dk}{adr:Int->Nat}{pend:List Nd}{x:Parts}(h:Rest S W D adr pend x)(hT:∀ k,S k->T k):Rest T W D adr pend x where
 names:=h.names
 nin:=fun g hg=>hT g (h.nin g hg)
 safe:=h.safe
 sin:=fun g hg=>hT g (h.sin g hg)
 apart:=h.apart
 ch:=h.ch
 chin:=fun g hg=>hT g (h.chin g hg)
 each:=fun e he=>by
  obtain⟨h1,h2,h3⟩:=h.each e he;exact⟨h1,h2,fun a ha=>⟨hT _ (h3 a ha).1,(h3 a ha).2⟩⟩
 crow:=h.crow
 later:=h.later
 ends:=h.ends
 lens:=h.lens
 inos:=h.inos
 iin:=fun e he h0=>hT _ (h.iin e he h0)
 inj:=h.inj
 fates:=h.fates
 fin:=fun g hg=>hT g (h.fin g hg)
 edits:=h.edits
 ein:=fun g hg=>hT g (h.ein g hg)
 elen:=h.elen
 vals:=fun j e v he hv=>⟨(h.vals j e v he hv).1,fun a ha=>hT _ ((h.vals j e v he hv).2 a ha)⟩
 trace:=h.trace
 tin:=fun g hg=>hT g (h.tin g hg)
def diskC(D:Dk)(x:Parts):Array Value:=#[x.vn,x.vs,x.vc,.bool (!D.off),.int .i64 (D.inos.length:Nat),.int .i64 (D.clock:Nat),x.vf,x.ve,x.vt]
structure DiskX(S:Nat->Prop)(W:World)(p:Nat)(D:Dk)(adr:Int->Nat)(pend:List Nd)(x:Parts):Prop where
 row:W.heap[p]?=some (.cells (diskC D x) 122 (0,0))
 rest:Rest S W D adr pend x
 lt:∀ k,S k->k<W.heap.size
 np:¬ S p
 fit:Fit D
def DiskA(S:Nat->Prop)(W:World)(p:Nat)(D:Dk)(adr:Int->Nat)(pend:List Nd):Prop:=∃ x,DiskX S W p D adr pend x
def Disk(S:Nat->Prop)(W:World)(p:Nat)(D:Dk):Prop:=∃ adr,DiskA S W p D adr []
theorem DiskX.keep{S:Nat->Prop}{W W':World}{p:Nat}{D:Dk}{adr:Int->Nat}{pend:List Nd}{x:Parts}(h:DiskX S W p D adr pend x)(hs:W.heap.size<=W'.heap.size)(hp:W'.heap[p]?=W.heap[p]?)(hk:∀ k,S k->W'.heap[k]?=W.heap[k]?):DiskX S W' p D adr pend x :=
 ⟨hp.trans h.row,h.rest.keep hs hk,fun k hk=>Nat.lt_of_lt_of_le (h.lt k hk) hs,h.np,h.fit⟩
theorem DiskX.below{S:Nat->Prop}{W W':World}{p:Nat}{D:Dk}{adr:Int->Nat}{pend:List Nd}{x:Parts}(h:DiskX S W p D adr pend x)(hb:Below W.heap.size W W'):DiskX S W' p D adr pend x :=
 h.keep hb.size (hb.block p (Array.getElem?_eq_some_iff.1 h.row).1) (fun k hk=>hb.block k (h.lt k hk))
theorem DiskA.below{S:Nat->Prop}{W W':World}{p:Nat}{D:Dk}{adr:Int->Nat}{pend:List Nd}(h:DiskA S W p D adr pend)(hb:Below W.heap.size W W'):DiskA S W' p D adr pend:=by
 obtain⟨x,h⟩:=h;exact⟨x,h.below hb⟩
theorem Disk.below{S:Nat->Prop}{W W':World}{p:Nat}{D:Dk}(h:Disk S W p D)(hb:Below W.heap.size W W'):Disk S W' p D:=by
 obtain⟨adr,h⟩:=h;exact⟨adr,h.below hb⟩
theorem Disk.beside{S T:Nat->Prop}{W W':World}{p:Nat}{D:Dk}(h:Disk S W p D)(ho:Out T W W')(hT:∀ k,T k->¬ S k/\k≠p):Disk S W' p D:=by
 obtain⟨adr,x,h⟩:=h;exact⟨adr,x,h.keep ho.size (ho.block p (Array.getElem?_eq_some_iff.1 h.row).1 (fun ht=>(hT p ht).2 rfl)) (fun k hk=>ho.block k (h.lt k hk) (fun ht=>(hT k ht).1 hk))⟩
def Does(S:Nat->Prop)(p B:Nat)(w:World)(D:Dk)(w':World):Prop :=
 Out (fun k=>S k\/k=p) w w'/\∃ S',(∀ k,S' k->S k\/B<=k)/\Disk S' w' p D
theorem row9{W:World}{b:Nat}{a0 a1 a2 a3 a4 a5 a6 a7 a8:Value}{t:TypeId}(h:W.heap[b]?=some (.cells #[a0,a1,a2,a3,a4,a5,a6,a7,a8] t (0,0))) :
  W.cell? ⟨b,0,none⟩=some a0/\W.cell? ⟨b,1,none⟩=some a1/\W.cell? ⟨b,2,none⟩=some a2/\W.cell? ⟨b,3,none⟩=some a3/\W.cell? ⟨b,4,none⟩=some a4/\W.cell? ⟨b,5,none⟩=some a5/\W.cell? ⟨b,6,none⟩=some a6/\W.cell? ⟨b,7,none⟩=some a7/\W.cell? ⟨b,8,none⟩=some a8/\∀ j,W.frozen? ⟨b,j,none⟩=false :=
 ⟨by rw[cell_of_row W b 0 _ _ _ h];rfl,by rw[cell_of_row W b 1 _ _ _ h];rfl,by rw[cell_of_row W b 2 _ _ _ h];rfl,by rw[cell_of_row W b 3 _ _ _ h];rfl,by rw[cell_of_row W b 4 _ _ _ h];rfl,by rw[cell_of_row W b 5 _ _ _ h];rfl,by rw[cell_of_row W b 6 _ _ _ h];rfl,by rw[cell_of_row W b 7 _ _ _ h];rfl,by rw[cell_of_row W b 8 _ _ _ h];rfl,fun j=>frozen_of_row W b j _ _ h⟩
theorem row_set{W:World}{g j:Nat}{be:Array Value}{t:TypeId}{fr:Nat×Nat}(h:W.heap[g]?=some (.cells be t fr))(u:Value):(W.setCell ⟨g,j,none⟩ u).heap[g]?=some (.cells (be.setIfInBounds j u) t fr):=by
 rw[setCell_eq_setRow W g j be t fr u h];exact setRow_heap W g be _ t fr h
theorem set_other(W:World)(g j k:Nat)(u:Value)(h:k≠g):(W.setCell ⟨g,j,none⟩ u).heap[k]?=W.heap[k]?:=Below.heap_setCell W _ u k h
theorem set_size(W:World)(a:Addr)(u:Value):(W.setCell a u).heap.size=W.heap.size:=by simp[World.setCell]
end DM
end
section
open Go.RowKit Go.Lib Go.BigFrame
namespace DG
open OM TP TM DP DM TG TR FP
def updA(adr:Int->Nat)(k:Nat)(g:Nat):Int->Nat:=fun z=>if z=(k:Int)then g else adr z
theorem updA_old(adr:Int->Nat)(k g:Nat){z:Int}(h:z≠k):updA adr k g z=adr z:=if_neg h
theorem updA_new(adr:Int->Nat)(k g:Nat):updA adr k g (k:Int)=g:=if_pos rfl
structure FreshW(w:World)(p:Nat)(n:Nd)(vn vs vc vf ve vt:Value)(b:Bool)(l c:Nat)(w':World):Prop where
 ino:InoAt w' (w.heap.size+2) ((l+1:Nat):Int) ⟨c,n.kind,n.mode,n.data,false⟩
 row:w'.heap[p]?=some (.cells #[vn,vs,vc,.bool b,.int .i64 ((l+1:Nat):Int),.int .i64 (c:Nat),vf,ve,vt] 122 (0,0))
 out:Out (fun k=>k=p) w w'
 lt:w.heap.size+2<w'.heap.size
theorem fresh_walk(w:World)(p:Nat)(n:Nd)(vn vs vc vf ve vt:Value)(b:Bool)(l c:Nat)(hr:w.heap[p]?=some (.cells #[vn,vs,vc,.bool b,.int .i64 (l:Nat),.int .i64 (c:Nat),vf,ve,vt] 122 (0,0)))(hl:l<=4611686018427387904) :
  Calls Tryz.prog 54 #[.pointer (some ⟨p,0,none⟩),ndVal n] w fun r w' =>
   r=.returned (.agg #[txt n.path,.pointer (some ⟨w.heap.size+2,0,none⟩)])/\FreshW w p n vn vs vc vf ve vt b l c w':=by
 obtain⟨pt,kd,dt,md⟩:=n;obtain⟨P,hP,_⟩:=txt_of pt;obtain⟨D,hD,_⟩:=txt_of dt;have am:=(Array.getElem?_eq_some_iff.1 hr).1
 have HF:Hid (FreshW w p ⟨pt,kd,dt,md⟩ vn vs vc vf ve vt b l c ((((w.setCell ⟨p,4,none⟩ (.int .i64 ((l:Int)+1))).alloc (.cells #[.string P,.int .i64 kd,.string D,.int .i64 md] 45)).alloc (.cells #[.string P,.pointer (some ⟨w.heap.size+1+1,0,none⟩)] 125)).alloc (.cells #[.int .i64 ((l:Int)+1),.int .i64 (c:Nat),.int .i64 kd,.int .i64 md,.string D,.bool false] 173)).drew):=hid (by
  refine⟨?_,?_,?_,by simp[set_size]⟩
  ·unfold InoAt inoC;have:=heap_alloc_new (((w.setCell ⟨p,4,none⟩ (.int .i64 ((l:Int)+1))).alloc (.cells #[.string P,.int .i64 kd,.string D,.int .i64 md] 45)).alloc (.cells #[.string P,.pointer (some ⟨w.heap.size+1+1,0,none⟩)] 125)) (.cells #[.int .i64 ((l:Int)+1),.int .i64 (c:Nat),.int .i64 kd,.int .i64 md,.string D,.bool false] 173);simp only[World.size_alloc,set_size]at this;simp only;rw[hD];exact this
  ·have h0:=row_set (j:=4) hr (.int .i64 ((l:Int)+1));have e1:=Below.heap_alloc (w.setCell ⟨p,4,none⟩ (.int .i64 ((l:Int)+1))) (.cells #[.string P,.int .i64 kd,.string D,.int .i64 md] 45) p (by rw[set_size];exact am);have e2:=Below.heap_alloc ((w.setCell ⟨p,4,none⟩ (.int .i64 ((l:Int)+1))).alloc (.cells #[.string P,.int .i64 kd,.string D,.int .i64 md] 45)) (.cells #[.string P,.pointer (some ⟨w.heap.size+1+1,0,none⟩)] 125) p (by simp[set_size];omega);have e3:=Below.heap_alloc (((w.setCell ⟨p,4,none⟩ (.int .i64 ((l:Int)+1))).alloc (.cells #[.string P,.int .i64 kd,.string D,.int .i64 md] 45)).alloc (.cells #[.string P,.pointer (some ⟨w.heap.size+1+1,0,none⟩)] 125)) (.cells #[.int .i64 ((l:Int)+1),.int .i64 (c:Nat),.int .i64 kd,.int .i64 md,.string D,.bool false] 173) p (by simp[set_size];omega);refine(e3.trans (e2.trans (e1.trans h0))).trans ?_;rfl
  ·exact((((Out.refl (fun k=>k=p) w).setCell (p:=⟨p,4,none⟩) (fun _=>rfl) _).alloc _).alloc _).alloc _ |>.drew)
 unfold ndVal;simp only at HF ⊢;rw[hP,hD];obtain⟨-,-,-,-,c4,c5,-,-,-,cf⟩:=row9 hr;clear hP hD hr;go_enter Tryz.func54,Tryz.ntmps54;repeat (first|go_skip|go_guarded|go_step|go_upon)
 go_region;repeat (first|go_skip|go_guarded|go_step|go_upon)
 refine bodyPost_ret (v:=.agg #[.string P,.pointer (some ⟨w.heap.size+1+1,0,none⟩)]) ?_ rfl ⟨rfl,HF.out⟩;rw[results_cell1 rfl];go_simp
end DG
end
section
open Go.RowKit Go.Lib Go.BigFrame
namespace DG
open OM TP TM DP DM TG TR FP
theorem liveL_fresh(D:Dk)(n:Nd):liveL (freshD D n)=liveL D:=rfl
theorem row_kind{m:Nat}{ns:List Nd}(h:Row m ns){e:Nd}(he:e∈ns):1<=e.kind/\e.kind<=m:=by
 obtain⟨k,h1,h2,h3⟩:=h.ino e he;rw[h1];show 1<=(k:Int)/\(k:Int)<=m;omega
theorem live_kind{D:Dk}(h:Fit D){e:Nd}(he:e∈liveL D):1<=e.kind/\e.kind<=D.inos.length:=by
 unfold liveL at he;rcases List.mem_append.1 he with he|he
 ·exact row_kind h.names he
 ·rcases List.mem_append.1 he with he|he
  ·exact row_kind h.safe he
  ·obtain⟨l,hl,he⟩:=List.mem_flatten.1 he;exact row_kind (h.later l hl) he
theorem ino_old{I:List Ino}{k:Int}(i:Ino)(h1:1<=k)(h2:k<=I.length):inoOf (I++[i]) k=inoOf I k:=by
 unfold inoOf;rw[getD_eq_getElem?_getD,getD_eq_getElem?_getD,List.getElem?_append_left (by omega)]
theorem ino_new{I:List Ino}(i:Ino):inoOf (I++[i]) ((I.length+1:Nat):Int)=i:=by
 unfold inoOf;rw[getD_eq_getElem?_getD,show((I.length+1:Nat):Int).toNat-1=I.length by omega,List.getElem?_append_right (Nat.le_refl _)];simp
theorem fit_fresh{D:Dk}(h:Fit D){n:Nd}(hd:n.data.length<=65536):Fit (freshD D n):=by
 have hm:D.inos.length<=(freshD D n).inos.length:=by show _<=(D.inos++[_]).length;simp
 refine⟨h.names.mono hm,h.safe.mono hm,fun l hl=>(h.later l hl).mono hm,fun i hi=>?_⟩;rcases List.mem_append.1 (show i∈D.inos++[freshI D n] from hi)with hi|hi
 ·exact h.data i hi
 ·rw[List.mem_singleton.1 hi];exact hd
def PRow(m:Nat)(c:List Nd):Prop:=∀ e∈c,1<=e.kind/\e.kind<=(m:Int)
theorem rest_fresh{S:Nat->Prop}{w w':World}{p:Nat}{D:Dk}{adr:Int->Nat}{pend:List Nd}{x:Parts}{n:Nd}{vn vs vc vf ve vt:Value}{b:Bool}{l c:Nat}(h:DiskX S w p D adr pend x)(hp:PRow D.inos.length pend)(hl:D.inos.length=l)(hc:D.clock=c)(hw:FreshW w p n vn vs vc vf ve vt b l c w') :
  DM.Rest (fun k=>S k\/k=w.heap.size+2) w' (freshD D n) (updA adr (l+1) (w.heap.size+2)) (pend++[freshE D n]) x:=by
 have hr:=(h.rest.keep hw.out.size (fun k hk=>hw.out.block k (h.lt k hk) (fun e=>h.np (e ▸ hk)))).sup (T:=fun k=>S k\/k=w.heap.size+2) (fun k hk=>.inl hk)
 have ap:∀ e∈pend++liveL D,1<=e.kind/\e.kind<=(l:Int):=fun e he=>by
  rw[<- hl];rcases List.mem_append.1 he with he|he
  ·exact hp e he
  ·exact live_kind h.fit he
 have a9:∀ e∈pend++liveL D,updA adr (l+1) (w.heap.size+2) e.kind=adr e.kind:=fun e he=>updA_old _ _ _ (by have:=ap e he;omega);have bD:∀(ns:List Nd),Row D.inos.length ns->∀ e∈ns,updA adr (l+1) (w.heap.size+2) e.kind=adr e.kind:=fun ns hns e he=>updA_old _ _ _ (by have:=row_kind hns he;omega);have hk:(freshE D n).kind=((l+1:Nat):Int):=by rw[<- hl];rfl
 have aX:updA adr (l+1) (w.heap.size+2) (freshE D n).kind=w.heap.size+2:=by rw[hk];exact updA_new _ _ _
 have ai:∀ e∈(pend++[freshE D n])++liveL (freshD D n),e=freshE D n\/e∈pend++liveL D:=fun e he=>by
  rw[liveL_fresh]at he;rcases List.mem_append.1 he with he|he
  ·rcases List.mem_append.1 he with he|he
   ·exact .inr (mem_append_left _ he)
   ·exact .inl (List.mem_singleton.1 he)
  ·exact .inr (mem_append_right _ he)
 have bO:∀ e∈pend++liveL D,adr e.kind<w.heap.size:=fun e he=>h.lt _ (h.rest.iin e he (by have:=ap e he;omega))
 exact {
  names:=by
   have:=hr.names;show w'.ownsRow 0 _ 2 x.vn D.names.length (ensC _ D.names);rw[ens_adr (bD _ h.fit.names)];exact this
  nin:=hr.nin
  safe:=by
   have:=hr.safe;show w'.ownsRow 0 _ 2 x.vs D.safe.length (ensC _ D.safe);rw[ens_adr (bD _ h.fit.safe)];exact this
  sin:=hr.sin
  apart:=hr.apart
  ch:=hr.ch
  chin:=hr.chin
  each:=fun e he=>⟨(hr.each e he).1.adr (fun f hf=>updA_old _ _ _ (by
   obtain⟨k,h1,h2⟩:=(hr.crow e he).ino f hf;rw[h1];show(k:Int)≠_
   omega)),(hr.each e he).2⟩
  crow:=fun e he=>(hr.crow e he).mono (by show _<=(D.inos++[_]).length;simp)
  later:=hr.later
  ends:=hr.ends
  lens:=hr.lens
  inos:=fun e he h0=>by
   rcases ai e he with rfl|he
   ·rw[aX];have:=hw.ino;rw[hk];show InoAt w' _ _ (inoOf (D.inos++[freshI D n]) _);rw[<- hl,ino_new,hl];unfold freshI;rw[hc];exact this
   ·rw[a9 e he];have:=hr.inos e he h0;show InoAt w' _ _ (inoOf (D.inos++[freshI D n]) _);rw[ino_old _ (ap e he).1 (by rw[hl];exact(ap e he).2)];exact this
  iin:=fun e he h0=>by
   rcases ai e he with rfl|he
   ·exact .inr aX
   ·rw[a9 e he];exact hr.iin e he h0
  inj:=fun e he f hf h0 h1 h2=>by
   rcases ai e he with rfl|he<;>rcases ai f hf with rfl|hf
   ·rfl
   ·rw[aX,a9 f hf]at h2;have:=bO f hf;omega
   ·rw[aX,a9 e he]at h2;have:=bO e he;omega
   ·rw[a9 e he,a9 f hf]at h2;exact hr.inj e he f hf h0 h1 h2
  fates:=hr.fates
  fin:=hr.fin
  edits:=hr.edits
  ein:=hr.ein
  elen:=hr.elen
  vals:=hr.vals
  trace:=hr.trace
  tin:=hr.tin }
theorem diskX_fresh{S:Nat->Prop}{w w':World}{p:Nat}{D:Dk}{adr:Int->Nat}{pend:List Nd}{x:Parts}{n:Nd}(h:DiskX S w p D adr pend x)(hp:PRow D.inos.length pend)(hd:n.data.length<=65536)(hw:FreshW w p n x.vn x.vs x.vc x.vf x.ve x.vt (!D.off) D.inos.length D.clock w') :
  DiskX (fun k=>S k\/k=w.heap.size+2) w' p (freshD D n) (updA adr (D.inos.length+1) (w.heap.size+2)) (pend++[freshE D n]) x:=by
 refine⟨?_,rest_fresh h hp rfl rfl hw,fun k hk=>?_,?_,fit_fresh h.fit hd⟩
 ·rw[hw.row];unfold diskC;rw[show(freshD D n).inos.length=D.inos.length+1 by show(D.inos++[_]).length=_;simp];rfl
 ·rcases hk with hk|rfl
  ·exact Nat.lt_of_lt_of_le (h.lt k hk) hw.out.size
  ·exact hw.lt
 ·rintro (hk|hk)
  ·exact h.np hk
  ·have:=(Array.getElem?_eq_some_iff.1 h.row).1;omega
def FreshPost(S:Nat->Prop)(p:Nat)(D:Dk)(adr:Int->Nat)(pend:List Nd)(n:Nd)(w:World)(r:Ending)(w':World):Prop :=
 ∃ g,w.heap.size<=g/\r=.returned (enV (updA adr (D.inos.length+1) g) (freshE D n))/\DiskA (fun k=>S k\/k=g) w' p (freshD D n) (updA adr (D.inos.length+1) g) (pend++[freshE D n])/\Out (fun k=>k=p) w w'
theorem fresh_any(S:Nat->Prop)(w:World)(p:Nat)(D:Dk)(adr:Int->Nat)(pend:List Nd)(n:Nd)(h:DiskA S w p D adr pend)(hp:PRow D.inos.length pend)(hd:n.data.length<=65536)(hl:D.inos.length<=4611686018427387904) :
  Calls Tryz.prog 54 #[.pointer (some ⟨p,0,none⟩),ndVal n] w (FreshPost S p D adr pend n w):=by
 obtain⟨x,h⟩:=h;refine(fresh_walk w p n _ _ _ _ _ _ _ _ _ h.row hl).mono ?_;rintro r w' ⟨rfl,hw⟩;refine⟨w.heap.size+2,by omega,?_,⟨x,diskX_fresh h hp hd hw⟩,hw.out⟩;unfold enV ptrV;rw[show(freshE D n).kind=((D.inos.length+1:Nat):Int) from rfl,if_neg (by omega),updA_new];rfl
end DG
end
section
open Go.RowKit Go.Lib Go.BigFrame
namespace DG
open OM TP TM DP DM TG TR FP
theorem lay_kind{W:World}{adr:Int->Nat}{ns:List Nd}{I:List Ino}(h:LayI W adr ns I){e f:Nd}(hf:f∈ns)(hk:f.kind=e.kind)(h0:e.kind≠0):InoAt W (adr e.kind) e.kind (inoOf I e.kind):=by
 rw[<- hk]at h0 ⊢;exact h f hf h0
def Sub(ms ns:List Nd):Prop:=∀ e∈ms,e.kind≠0->∃ f∈ns,f.kind=e.kind
theorem Sub.of{ms ns:List Nd}(h:∀ e∈ms,e∈ns):Sub ms ns:=fun e he _=>⟨e,h e he,rfl⟩
theorem sub_lay{W:World}{adr:Int->Nat}{ns ms:List Nd}{I:List Ino}(h:LayI W adr ns I)(hs:Sub ms ns):LayI W adr ms I:=fun e he h0=>by
 obtain⟨f,hf,hk⟩:=hs e he h0;exact lay_kind h hf hk h0
theorem sub_in{S:Nat->Prop}{adr:Int->Nat}{ns ms:List Nd}(h:∀ e∈ns,e.kind≠0->S (adr e.kind))(hs:Sub ms ns):∀ e∈ms,e.kind≠0->S (adr e.kind):=fun e he h0=>by
 obtain⟨f,hf,hk⟩:=hs e he h0;rw[<- hk]at h0 ⊢;exact h f hf h0
theorem sub_inj{adr:Int->Nat}{ns ms:List Nd}(h:∀ e∈ns,∀ f∈ns,e.kind≠0->f.kind≠0->adr e.kind=adr f.kind->e.kind=f.kind)(hs:Sub ms ns):∀ e∈ms,∀ f∈ms,e.kind≠0->f.kind≠0->adr e.kind=adr f.kind->e.kind=f.kind:=fun e he f hf h0 h1 h2=>by
 obtain⟨e',eY,hk⟩:=hs e he h0;obtain⟨f',fc,fx⟩:=hs f hf h1;rw[<- hk]at h0 h2 ⊢;rw[<- fx]at h1 h2 ⊢;exact h e' eY f' fc h0 h1 h2
theorem rest_pend{S:Nat->Prop}{W:World}{D:Dk}{adr:Int->Nat}{pend pend':List Nd}{x:Parts}(h:DM.Rest S W D adr pend x)(hs:∀ e∈pend',e∈pend):DM.Rest S W D adr pend' x :=
 have ac:Sub (pend'++liveL D) (pend++liveL D):=Sub.of fun e he=>by
  rcases List.mem_append.1 he with he|he
  ·exact mem_append_left _ (hs e he)
  ·exact mem_append_right _ he
 { h with inos:=sub_lay h.inos ac,iin:=sub_in h.iin ac,inj:=sub_inj h.inj ac }
theorem diskA_pend{S:Nat->Prop}{W:World}{p:Nat}{D:Dk}{adr:Int->Nat}{pend pend':List Nd}(h:DiskA S W p D adr pend)(hs:∀ e∈pend',e∈pend):DiskA S W p D adr pend':=by
 obtain⟨x,h⟩:=h;exact⟨x,h.row,rest_pend h.rest hs,h.lt,h.np,h.fit⟩
def MutPost(S:Nat->Prop)(p:Nat)(X:Nat->Prop)(D:Dk)(adr:Int->Nat)(pend:List Nd)(w:World)(r:Ending)(w':World):Prop :=
 r=.returned (.tuple #[])/\(∃ S',(∀ k,S' k->S k\/X k\/w.heap.size<=k)/\DiskA S' w' p D adr pend)/\Out (fun k=>S k\/k=p) w w'
def NoX:Nat->Prop:=fun _=>False
theorem fit_settle{D:Dk}(h:Fit D):Fit (settleD D):=⟨h.names,h.names,(fun l hl=>by cases hl),h.data⟩
theorem rest_settle{S:Nat->Prop}{w w':World}{D:Dk}{adr:Int->Nat}{pend:List Nd}{x:Parts}{v':Value}(h:DM.Rest S w D adr pend x)(al:∀ k,S k->k<w.heap.size)(hs:w.heap.size<=w'.heap.size)(hk:∀ k,S k->w'.heap[k]?=w.heap[k]?)
  (ho:OwnE w' adr v' D.names) (hn:∀ g,v'.ownBlock=some g->w.heap.size<=g) (hr:Row D.inos.length D.names) :
  DM.Rest (fun k=>S k\/(w.heap.size<=k/\k<w'.heap.size)) w' (settleD D) adr pend { x with vs:=v',vc:=.slice none 0 0,cs:=[] }:=by
 have hr:=(h.keep hs hk).sup (T:=fun k=>S k\/(w.heap.size<=k/\k<w'.heap.size)) (fun k hk=>.inl hk)
 have ac:Sub (pend++liveL (settleD D)) (pend++liveL D):=Sub.of fun e he=>by
  rcases List.mem_append.1 he with he|he
  ·exact mem_append_left _ he
  ·refine mem_append_right _ ?_;show e∈D.names++_;rcases List.mem_append.1 (show e∈D.names++(D.names++[].flatten) from he)with he|he
   ·exact mem_append_left _ he
   ·rcases List.mem_append.1 he with he|he
    ·exact mem_append_left _ he
    ·cases he
 exact { hr with
  safe:=ho
  sin:=fun g hg=>.inr ⟨hn g hg,own_lt ho g hg⟩
  apart:=fun g hg hg2=>by
   have h1:=al g (h.nin g hg);have h2:=hn g hg2;omega
  ch:=World.ownsRow_nil _ _ _ _
  chin:=fun g hg=>by cases hg
  each:=fun e he=>by cases he
  crow:=fun e he=>by cases he
  later:=rfl
  ends:=rfl
  lens:=fun j c hc=>by cases hc
  inos:=sub_lay hr.inos ac
  iin:=sub_in (S:=fun k=>S k\/(w.heap.size<=k/\k<w'.heap.size)) hr.iin ac
  inj:=sub_inj hr.inj ac }
theorem settle_any(S:Nat->Prop)(w:World)(p:Nat)(D:Dk)(adr:Int->Nat)(pend:List Nd)(h:DiskA S w p D adr pend) :
  Calls Tryz.prog 55 #[.pointer (some ⟨p,0,none⟩)] w (MutPost S p NoX (settleD D) adr pend w):=by
 obtain⟨x,h⟩:=h;have HD:=hid h;have am:=(Array.getElem?_eq_some_iff.1 h.row).1;obtain⟨ao,cap,aj,aa,aA,aM,bV⟩:=layE_own h.rest.names;have aB:=h.fit.names.len
 have CC:Hid (Calls Tryz.prog 116 #[.slice ao D.names.length cap] w (ClPost 125 2 D.names.length (ensC adr D.names) w)):=hid (clE_any ao D.names.length cap (ensC adr D.names) w (fun ad ha=>by subst ha;exact layE_cells aa) (ens_len _ _) (ens_one _ _) (fun ha=>by
  have:=aM ha
  omega) (by omega))
 obtain⟨n,hn⟩:∃ n,D.names.length=n:=⟨_,rfl⟩;have HN:=hid hn;have hr:=h.row;unfold diskC at hr;obtain⟨vs,aT⟩:∃ v,x.vs=v:=⟨_,rfl⟩;obtain⟨vc,aE⟩:∃ v,x.vc=v:=⟨_,rfl⟩;obtain⟨vf,aQ⟩:∃ v,x.vf=v:=⟨_,rfl⟩;obtain⟨ve,bm⟩:∃ v,x.ve=v:=⟨_,rfl⟩;obtain⟨vt,aP⟩:∃ v,x.vt=v:=⟨_,rfl⟩;obtain⟨bo,bA⟩:∃ v,(!D.off)=v:=⟨_,rfl⟩;obtain⟨lz,bt⟩:∃ v,D.inos.length=v:=⟨_,rfl⟩;obtain⟨cz,bs⟩:∃ v,D.clock=v:=⟨_,rfl⟩;rw[aj,aT,aE,aQ,bm,aP,bA,bt,bs,hn]at hr;rw[hn]at CC;have HR:=hid hr;have HE:Hid (x.vn=.slice ao n cap/\x.vf=vf/\x.ve=ve/\x.vt=vt/\(!D.off)=bo/\D.inos.length=lz/\D.clock=cz):=hid ⟨by rw[aj,hn],aQ,bm,aP,bA,bt,bs⟩;obtain⟨c0,c1,c2,-,-,-,-,-,-,cf⟩:=row9 hr;clear h aj aa aA aM bV aB hn hr aT aE aQ bm aP bA bt bs;go_enter Tryz.func55,Tryz.ntmps55;repeat (first|go_skip|go_guarded|go_step|go_upon)
 refine CC.out.mono ?_;rintro r w1 ⟨v1,rfl,aI,aF⟩;simp only[];obtain⟨a1,k1,b7,ay⟩:=owns_view aI;clear ay;subst b7;have aR:=hid aI;have bx:=hid aF;have R1:Hid (w1.heap[p]?=some (.cells #[.slice ao n cap,vs,vc,.bool bo,.int .i64 (lz:Nat),.int .i64 (cz:Nat),vf,ve,vt] 122 (0,0))):=hid ((aF.block p am).trans HR.out);have fR:p<w1.heap.size:=Nat.lt_of_lt_of_le am aF.size;obtain⟨c0,c1,c2,-,-,-,-,-,-,cf⟩:=row9 R1.out;clear aI aF;repeat (first|go_skip|go_guarded|go_step|go_upon)
 go_end0
 have hd:=HD.out;have ak:=row_set (j:=2) (row_set (j:=1) R1.out (.slice a1 n k1)) (.slice none 0 0);have b5:((w1.setCell ⟨p,1,none⟩ (.slice a1 n k1)).setCell ⟨p,2,none⟩ (.slice none 0 0)).heap.size=w1.heap.size:=by rw[set_size,set_size]
 have aS:∀ k,k≠p->((w1.setCell ⟨p,1,none⟩ (.slice a1 n k1)).setCell ⟨p,2,none⟩ (.slice none 0 0)).heap[k]?=w1.heap[k]?:=fun k hk=>(set_other _ p 2 k _ hk).trans (set_other _ p 1 k _ hk)
 have ba:OwnE ((w1.setCell ⟨p,1,none⟩ (.slice a1 n k1)).setCell ⟨p,2,none⟩ (.slice none 0 0)) adr (.slice a1 n k1) D.names:=by
  refine own_same (owns_base (base:=w.heap.size) ?_ 0 (Nat.zero_le _)) (fun g hg=>aS g (fun e=>?_))
  ·rw[HN.out];exact aR.out
  ·have:=(aR.out.lt g hg).1;omega
 have cS:=bx.out.size;refine⟨rfl,⟨fun k=>S k\/(w.heap.size<=k/\k<((w1.setCell ⟨p,1,none⟩ (.slice a1 n k1)).setCell ⟨p,2,none⟩ (.slice none 0 0)).heap.size),fun k hk=>?_,{ x with vs:=.slice a1 n k1,vc:=.slice none 0 0,cs:=[] },?_,?_,?_,?_,fit_settle hd.fit⟩,?_⟩
 ·rcases hk with hk|hk
  ·exact .inl hk
  ·exact .inr (.inr hk.1)
 ·obtain⟨g1,g2,g3,g4,g5,g6,g7⟩:=HE.out;rw[ak,← g1,← g2,← g3,← g4,← g5,← g6,← g7];rfl
 ·exact rest_settle hd.rest hd.lt (by rw[b5];exact cS) (fun k hk=>(aS k (fun e=>hd.np (e ▸ hk))).trans (bx.out.block k (hd.lt k hk))) ba (fun g hg=>(aR.out.lt g hg).1) hd.fit.names
 ·intro k hk;rcases hk with hk|hk
  ·rw[b5];have:=hd.lt k hk;omega
  ·exact hk.2
 ·rintro (hk|hk)
  ·exact hd.np hk
  ·omega
 ·refine((Out.of_below bx.out).mono (fun k hk hB=>absurd hB (by omega)) |>.setCell (p:=⟨p,1,none⟩) (fun _=>.inr rfl) _).setCell (p:=⟨p,2,none⟩) (fun _=>.inr rfl) _
end DG
end
section
open Go.RowKit Go.Lib Go.BigFrame
namespace DG
open OM TP TM DP DM TG TR FP
theorem infoC:(Tryz.prog.info? 118).map (fun i=>(i.zero,i.size,i.bytes))=some (some (.slice none 0 0),1,24):=by kernel_rfl
structure ChgIn(S:Nat->Prop)(w:World)(D:Dk)(adr:Int->Nat)(pend:List Nd)(co:Option Addr)(c:List Nd):Prop where
 lay:LayE w adr co c
 row:CRow D.inos.length c
 apart:∀ a,co=some a->IsT w a.block 125/\¬ S a.block
 len:∀ k,(withE D.names (c.take k)).length<=1000
 cl:c.length<=1000000
 sub:Sub c (pend++liveL D)
theorem crow_small{m:Nat}{c:List Nd}(h:CRow m c):SmallE c:=fun e he=>by have:=small_of (h.path e he);unfold maxLen;omega
theorem row_with{m:Nat}{ns c:List Nd}(hn:Row m ns)(hc:CRow m c)(hl:(withE ns c).length<=1000):Row m (withE ns c):=by
 refine⟨sorted_with hn.sorted c,fun e he=>?_,hl,fun e he=>?_⟩
 ·rcases mem_with he with h|h
  ·exact hn.path e h
  ·exact hc.path e h.1
 ·rcases mem_with he with h|h
  ·exact hn.ino e h
  ·obtain⟨k,h1,h2⟩:=hc.ino e h.1;refine⟨k,h1,?_,h2⟩;have:=h.2;rw[h1]at this;have:(k:Int)≠0:=this;omega
theorem take_all{c:List Nd}{ns:List Nd}(h:∀ k,(withE ns (c.take k)).length<=1000):(withE ns c).length<=1000:=by
 have:=h c.length
 rwa [List.take_length]at this
theorem fit_change{D:Dk}{c:List Nd}(h:Fit D)(hc:CRow D.inos.length c)(hl:(withE D.names c).length<=1000):Fit (changeD D c):=by
 have hr:=row_with h.names hc hl;refine⟨hr,h.safe,fun l hl'=>?_,h.data⟩;rcases List.mem_append.1 (show l∈D.later++[withE D.names c] from hl')with h1|h1
 ·exact h.later l h1
 ·rw[List.mem_singleton.1 h1];exact hr
theorem sub_change{D:Dk}{pend c:List Nd}(hs:Sub c (pend++liveL D)):Sub (pend++liveL (changeD D c)) (pend++liveL D):=fun e he h0=>by
 have hw:∀ e∈withE D.names c,e.kind≠0->∃ f∈pend++liveL D,f.kind=e.kind:=fun e he h0=>by
  rcases mem_with he with h|h
  ·exact⟨e,mem_append_right _ (mem_append_left _ h),rfl⟩
  ·exact hs e h.1 h0
 rcases List.mem_append.1 he with he|he
 ·exact⟨e,mem_append_left _ he,rfl⟩
 ·rcases List.mem_append.1 (show e∈withE D.names c++(D.safe++(D.later++[withE D.names c]).flatten) from he)with he|he
  ·exact hw e he h0
  ·rcases List.mem_append.1 he with he|he
   ·exact⟨e,mem_append_right _ (mem_append_right _ (mem_append_left _ he)),rfl⟩
   ·rw[List.flatten_append]at he;rcases List.mem_append.1 he with he|he
    ·exact⟨e,mem_append_right _ (mem_append_right _ (mem_append_right _ he)),rfl⟩
    ·exact hw e (by simpa using he) h0
structure ChgW(w:World)(p:Nat)(adr:Int->Nat)(ns c:List Nd)(vn vc:Value)(m:Nat)(xs:List Value)(co:Option Addr)(cc:Nat)(v1 v2:Value)(w':World):Prop where
 own1:OwnE w' adr v1 (withE ns c)
 blk1:∀ g,v1.ownBlock=some g->vn.ownBlock=some g\/w.heap.size<=g
 own2:w'.ownsRow 0 118 1 v2 (m+1) (xs++[.slice co c.length cc])
 blk2:∀ g,v2.ownBlock=some g->vc.ownBlock=some g\/w.heap.size<=g
 out:Out (fun k=>vn.ownBlock=some k\/k=p\/vc.ownBlock=some k) w w'
theorem rest_change{S:Nat->Prop}{w w':World}{p:Nat}{D:Dk}{adr:Int->Nat}{pend:List Nd}{x:Parts}{co:Option Addr}{cc:Nat}{c:List Nd}{v1 v2:Value}(h:DiskX S w p D adr pend x)(hi:ChgIn S w D adr pend co c)
  (hw:ChgW w p adr D.names c x.vn x.vc x.cs.length (x.cs.map chV) co cc v1 v2 w') :
  DM.Rest (fun k=>S k\/(∃ a,co=some a/\a.block=k)\/(w.heap.size<=k/\k<w'.heap.size)) w' (changeD D c) adr pend { x with vn:=v1,vc:=v2,cs:=x.cs++[⟨co,cc,c⟩] }:=by
 have hr:=h.rest;have hs:=hw.out.size;have same:∀ k,k<w.heap.size->x.vn.ownBlock≠some k->k≠p->x.vc.ownBlock≠some k->w'.heap[k]?=w.heap[k]?:=fun k h1 h2 h3 h4=>hw.out.block k h1 (fun hh=>hh.elim h2 (fun hh=>hh.elim h3 h4));have tn:∀ g,x.vn.ownBlock=some g->IsT w g 125:=own_type hr.names;have tc:∀ g,x.vc.ownBlock=some g->IsT w g 118:=own_type hr.ch
 have az:∀ k t,IsT w k t->S k->t≠125->t≠118->w'.heap[k]?=w.heap[k]?:=fun k t ht hS h1 h2 =>
  same k (h.lt k hS) (fun e=>h1 (Classical.byContradiction fun av=>(ht.ne (tn k e) av) rfl)) (fun e=>h.np (e ▸ hS)) (fun e=>h2 (Classical.byContradiction fun av=>(ht.ne (tc k e) av) rfl))
 have ac:=sub_change hi.sub
 have aK:∀ k,IsT w k 125->k<w.heap.size->k≠p->x.vn.ownBlock≠some k->w'.heap[k]?=w.heap[k]?:=fun k ht h1 h2 h3 =>
  same k h1 h3 h2 (fun e=>ht.ne (tc k e) (by decide) rfl)
 have pT:IsT w p 122:=⟨_,_,h.row⟩
 have ev:∀ a,co=some a->a.block<w.heap.size/\a.block≠p/\x.vn.ownBlock≠some a.block/\x.vs.ownBlock≠some a.block/\v1.ownBlock≠some a.block:=fun a ha=>by
  obtain⟨ht,hS⟩:=hi.apart a ha
  have al:a.block<w.heap.size:=by
   obtain⟨c0,f0,h0⟩:=ht;exact(Array.getElem?_eq_some_iff.1 h0).1
  refine⟨al,ht.ne pT (by decide),fun e=>hS (hr.nin _ e),fun e=>hS (hr.sin _ e),fun e=>?_⟩;rcases hw.blk1 _ e with h1|h1
  ·exact hS (hr.nin _ h1)
  ·omega
 have dh:∀ e∈pend++liveL D,e.kind≠0->w'.heap[adr e.kind]?=w.heap[adr e.kind]?:=fun e he h0 =>
  az _ _ (ino_type (hr.inos e he h0)) (hr.iin e he h0) (by decide) (by decide)
 have rows:∀(t:TypeId) {n size:Nat} {v:Value} {xs:List Value},w.ownsRow 0 t size v n xs->(∀ g,v.ownBlock=some g->S g)->t≠125->t≠118->w'.ownsRow 0 t size v n xs:=fun t {n size v xs} ho bK h1 h2 =>
  own_same ho fun g hg=>az g t (own_type ho g hg) (bK g hg) h1 h2
 have bl:(changeD D c).later=laterOf D.safe ((x.cs++[(⟨co,cc,c⟩:Ch)]).map (·.l)):=by
  rw[map_append];show D.later++[withE D.names c]=laterOf D.safe (x.cs.map (·.l)++[c]);rw[later_snoc,← hr.later,← hr.ends]
 exact {
  names:=hw.own1
  nin:=fun g hg=>by
   rcases hw.blk1 g hg with h1|h1
   ·exact .inl (hr.nin g h1)
   ·exact .inr (.inr ⟨h1,own_lt hw.own1 g hg⟩)
  safe:=own_same hr.safe fun g hg=>aK g (own_type hr.safe g hg) (h.lt g (hr.sin g hg)) (fun e=>h.np (e ▸ hr.sin g hg)) (fun e=>hr.apart g e hg)
  sin:=fun g hg=>.inl (hr.sin g hg)
  apart:=fun g hg hg2=>by
   rcases hw.blk1 g hg with h1|h1
   ·exact hr.apart g h1 hg2
   ·have:=h.lt g (hr.sin g hg2);omega
  ch:=by
   have:=hw.own2;rw[map_append,length_append];exact this
  chin:=fun g hg=>by
   rcases hw.blk2 g hg with h1|h1
   ·exact .inl (hr.chin g h1)
   ·exact .inr (.inr ⟨h1,(hw.own2.lt g hg).2⟩)
  each:=fun e he=>by
   rcases List.mem_append.1 he with he|he
   ·obtain⟨h1,h2,h3⟩:=hr.each e he
    have kp:∀ a,e.a=some a->w'.heap[a.block]?=w.heap[a.block]?:=fun a ha=>by
     obtain⟨g1,g2,g3,_⟩:=h3 a ha;exact aK _ g2 (h.lt _ g1) (fun e=>h.np (e ▸ g1)) g3
    refine⟨h1.same hs (fun a ha _=>kp a ha),h2,fun a ha=>?_⟩;obtain⟨g1,g2,g3,g4⟩:=h3 a ha;refine⟨.inl g1,g2.same (kp a ha),fun hv=>?_,g4⟩;rcases hw.blk1 _ hv with h5|h5
    ·exact g3 h5
    ·have:=h.lt _ g1;omega
   ·rw[List.mem_singleton.1 he]
    have kp:∀ a,co=some a->w'.heap[a.block]?=w.heap[a.block]?:=fun a ha=>by
     obtain⟨k1,k2,k3,_⟩:=ev a ha;exact aK _ (hi.apart a ha).1 k1 k2 k3
    refine⟨hi.lay.same hs (fun a ha _=>kp a ha),crow_small hi.row,fun a ha=>?_⟩;obtain⟨k1,k2,k3,k4,k5⟩:=ev a ha;exact⟨.inr (.inl ⟨a,ha,rfl⟩),(hi.apart a ha).1.same (kp a ha),k5,k4⟩
  crow:=fun e he=>by
   rcases List.mem_append.1 he with he|he
   ·exact hr.crow e he
   ·rw[List.mem_singleton.1 he];exact hi.row
  later:=bl
  ends:=by
   rw[map_append];show withE D.names c=endOf D.safe (x.cs.map (·.l)++[c]);rw[end_snoc,← hr.ends]
  lens:=fun j d hd=>by
   rw[map_append]at hd;show _/\∀ k,(withE (endOf D.safe (((x.cs++[(⟨co,cc,c⟩:Ch)]).map (·.l)).take j)) (d.take k)).length<=1000;rw[map_append];by_cases hj:j<(x.cs.map (·.l)).length
   ·rw[List.getElem?_append_left hj]at hd;rw[List.take_append_of_le_length (by omega)];exact hr.lens j d hd
   ·rw[List.getElem?_append_right (by omega)]at hd
    have fj:j-(x.cs.map (·.l)).length=0:=by
     have:=(List.getElem?_eq_some_iff.1 hd).1;simp only[List.map_cons,List.map_nil,length_cons,length_nil]at this;omega
    have eU:j=(x.cs.map (·.l)).length:=by omega
    rw[fj]at hd;simp at hd;subst hd;rw[eU,List.take_left,← hr.ends];exact⟨hi.cl,hi.len⟩
  inos:=sub_lay (layI_same hr.inos dh) ac
  iin:=sub_in (S:=fun k=>S k\/(∃ a,co=some a/\a.block=k)\/(w.heap.size<=k/\k<w'.heap.size)) (fun e he h0=>.inl (hr.iin e he h0)) ac
  inj:=sub_inj hr.inj ac
  fates:=rows _ hr.fates hr.fin (by decide) (by decide)
  fin:=fun g hg=>.inl (hr.fin g hg)
  edits:=rows _ hr.edits hr.ein (by decide) (by decide)
  ein:=fun g hg=>.inl (hr.ein g hg)
  elen:=hr.elen
  vals:=fun j e v he hv=>by
   obtain⟨h1,h2⟩:=hr.vals j e v he hv;refine⟨rows _ h1 (fun g hg=>?_) (by decide) (by decide),fun a ha=>.inl (h2 a ha)⟩
   cases ha:v.a with
   | none=>rw[ha]at hg;cases hg
   | some a =>
    rw[ha]at hg;injection hg with hg;rw[<- hg];exact h2 a ha
  trace:=rows _ hr.trace hr.tin (by decide) (by decide)
  tin:=fun g hg=>.inl (hr.tin g hg) }
theorem change_walk(w:World)(p:Nat)(adr:Int->Nat)(ns c:List Nd)(vn vs vc vf ve vt:Value)(bo:Bool)(lz cz:Nat)(m:Nat)(xs:List Value)(co:Option Addr)(cc:Nat)
  (hr:w.heap[p]?=some (.cells #[vn,vs,vc,.bool bo,.int .i64 (lz:Nat),.int .i64 (cz:Nat),vf,ve,vt] 122 (0,0)))
  (hn:OwnE w adr vn ns) (hc:w.ownsRow 0 118 1 vc m xs) (hm:m<=1099511627776) (hso:Sorted ns) (hs:SmallE ns) (aa:LayE w adr co c) (cD:SmallE c)
  (av:∀ a,co=some a->vn.ownBlock≠some a.block) (aB:∀ k,(withE ns (c.take k)).length<=1000) (aU:c.length<=1000000) :
  Calls Tryz.prog 64 #[.pointer (some ⟨p,0,none⟩),.slice co c.length cc] w fun r w'=>r=.returned (.tuple #[])/\∃ v1 v2,
   ChgW w p adr ns c vn vc m xs co cc v1 v2 w'/\w'.heap[p]?=some (.cells #[v1,vs,v2,.bool bo,.int .i64 (lz:Nat),.int .i64 (cz:Nat),vf,ve,vt] 122 (0,0)):=by
 obtain⟨i0,cO,db,bj,bU⟩:=info_parts infoC;have CW:=hid (with_any adr vn ns co cc c w hn hso hs aa cD av aB aU);have am:=(Array.getElem?_eq_some_iff.1 hr).1;have pT:IsT w p 122:=⟨_,_,hr⟩;have ee:vn.ownBlock≠some p:=fun e=>(own_type hn p e).ne pT (by decide) rfl;have b4:vc.ownBlock≠some p:=fun e=>(own_type hc p e).ne pT (by decide) rfl;have dE:∀ g,vc.ownBlock=some g->vn.ownBlock≠some g:=fun g h1 h2=>(own_type hc g h1).ne (own_type hn g h2) (by decide) rfl;obtain⟨q,hq⟩:∃ q,c.length=q:=⟨_,rfl⟩;obtain⟨a0,n0,aj,bC⟩:=owns_view hn;obtain⟨a2,n2,aE,cQ⟩:=owns_view hc;have HR:=hid hr;have HC:=hid hc;have HQ:=hid hq;have fB:=hid dE;have eE:=hid aj;have dV:=hid aE;obtain⟨c0,c1,c2,-,-,-,-,-,-,cf⟩:=row9 hr;rw[aj]at c0;rw[aE]at c2;rw[hq]at CW ⊢
 have dS:Hid (Calls Tryz.prog 125 #[.slice a0 ns.length n0,.slice co q cc] w (RowPost adr (withE ns c) vn w)):=hid (by
  have:=CW.out;rw[aj]at this ⊢
  exact this)
 have d6:=hid ee;have cP:=hid b4;obtain⟨nl,cH⟩:∃ k,ns.length=k:=⟨_,rfl⟩;rw[cH]at c0 dS;clear hr hn hc hso hs aa cD av aB aU hq aj aE bC cQ CW pT ee b4 dE cH;go_enter Tryz.func64,Tryz.ntmps64;repeat (first|go_skip|go_guarded|go_step|go_upon)
 refine dS.out.mono ?_;rintro r w1 ⟨v1,rfl,aI,aF,bh⟩;simp only[];obtain⟨a1,k1,b7,ay⟩:=owns_view aI;clear ay;obtain⟨q1,ew⟩:∃ k,(withE ns c).length=k:=⟨_,rfl⟩;rw[ew]at b7;subst b7;have aR:=hid aI;have bx:=hid aF;have eL:=hid bh;have R1:Hid (w1.heap[p]?=some (.cells #[vn,vs,vc,.bool bo,.int .i64 (lz:Nat),.int .i64 (cz:Nat),vf,ve,vt] 122 (0,0))):=hid (bh.row HR.out d6.out);have O1:Hid (w1.ownsRow 0 118 1 vc m xs):=hid (own_same HC.out fun g hg=>bh.block g (HC.out.lt g hg).2 (fB.out g hg))
 have dJ:Hid ((Value.slice a1 q1 k1).ownBlock≠some p):=hid (fun e=>by
  rcases aF p e with h|h
  ·exact d6.out h
  ·omega)
 obtain⟨c0,c1,c2,-,-,-,-,-,-,cf⟩:=row9 R1.out;rw[eE.out]at c0;rw[dV.out]at c2;have cS:=bh.size
 have bu:Hid (∃ v' w',(Builtin.append_ #[120,120] 120 #[.slice a2 m n2,.slice (some ⟨w1.heap.size,0,none⟩) 1 1]).run Tryz.prog ((w1.setCell ⟨p,0,none⟩ (.slice a1 q1 k1)).alloc (.cells #[.slice co q cc] 118))=.ok v' w' /\
   w'.ownsRow 0 118 1 v' (m+1) (xs++[.slice co q cc])/\((w1.setCell ⟨p,0,none⟩ (.slice a1 q1 k1)).alloc (.cells #[.slice co q cc] 118)).grownBy w' vc.ownBlock/\(v'.ownBlock=vc.ownBlock\/v'.ownBlock=some ((w1.setCell ⟨p,0,none⟩ (.slice a1 q1 k1)).alloc (.cells #[.slice co q cc] 118)).heap.size)):=hid (by
  have ba:((w1.setCell ⟨p,0,none⟩ (.slice a1 q1 k1)).alloc (.cells #[.slice co q cc] 118)).ownsRow 0 118 1 vc m xs:=(own_same O1.out fun g hg=>set_other w1 p 0 g _ (fun e=>cP.out (e ▸ hg))).alloc _;have bS:=one_new (w1.setCell ⟨p,0,none⟩ (.slice a1 q1 k1)) (.slice co q cc) 118;rw[set_size]at bS;obtain⟨v',w',g1,g2,g3,_,g4⟩:=run_append_own_at (P:=Tryz.prog) ((w1.setCell ⟨p,0,none⟩ (.slice a1 q1 k1)).alloc (.cells #[.slice co q cc] 118)) 0 120 120 118 i0 _ 1 24 Tryz.underlying120 cO db bj bU rfl (by decide) vc m xs ba ⟨w1.heap.size,0,none⟩ 1 1 [.slice co q cc] rfl bS (by intro u hu;rw[List.mem_singleton.1 hu];rfl) (by unfold maxLen;omega) (by omega) (Nat.zero_le _);rw[dV.out]at g1
  exact⟨v',w',g1,g2,g3,g4⟩)
 clear aI aF bh ew
 repeat (first
  | (at_builtin;obtain⟨v5,w5,aN,aO,aw,bf⟩:=bu.out;obtain⟨a5,k5,eC,fH⟩:=owns_view aO;clear fH;subst eC;refine wpList_append_eq rfl _ _ _ _ rfl _ _ rfl rfl aN ?_;have fu:=hid aO;have dz:=hid aw;have dO:=hid bf;have r5:Hid (w5.heap[p]?=some (.cells #[.slice a1 q1 k1,vs,vc,.bool bo,.int .i64 (lz:Nat),.int .i64 (cz:Nat),vf,ve,vt] 122 (0,0))):=hid ((aw.block p (by simp[set_size];omega) (fun e=>cP.out e.symm)).trans ((Below.heap_alloc _ _ p (by rw[set_size];omega)).trans (row_set (j:=0) R1.out _)));obtain⟨d0,d1,d2,-,-,-,-,-,-,df⟩:=row9 r5.out;clear aN aO aw bf)
  | go_skip|go_guarded|go_step|go_upon)
 go_end0
 have b5:((w1.setCell ⟨p,0,none⟩ (.slice a1 q1 k1)).alloc (.cells #[.slice co q cc] 118)).heap.size=w1.heap.size+1:=by simp[set_size]
 refine⟨rfl,.slice a1 q1 k1,.slice a5 (m+1) k5,⟨?_,fun g hg=>bx.out g hg,?_,fun g hg=>?_,?_⟩,row_set (j:=2) r5.out _⟩
 ·have h1:=own_same (W':=w1.setCell ⟨p,0,none⟩ (.slice a1 q1 k1)) aR.out fun g hg=>set_other w1 p 0 g _ (fun e=>dJ.out (e ▸ hg));have h2:=h1.alloc (.cells #[.slice co q cc] 118)
  have h3:=own_same (W':=w5) h2 fun g hg=>dz.out.block g (h2.lt g hg).2 (fun e=>by
   have t1:=own_type aR.out g hg;have t2:=own_type O1.out g e.symm
   exact t1.ne t2 (by decide) rfl)
  exact own_same h3 fun g hg=>set_other w5 p 2 g _ (fun e=>dJ.out (e ▸ hg))
 ·rw[HQ.out];refine own_same fu.out fun g hg=>set_other w5 p 2 g _ (fun e=>?_);subst e;rcases dO.out with h|h
  ·exact cP.out (h ▸ hg)
  ·rw[h,b5]at hg;injection hg with hg;omega
 ·rcases dO.out with h|h
  ·exact .inl (h ▸ hg)
  ·rw[h,b5]at hg;injection hg with hg;exact .inr (by omega)
 ·have u1:Out (fun k=>vn.ownBlock=some k\/k=p\/vc.ownBlock=some k) w w1:=eL.out.mono (fun k _ h=>.inl h);have u2:=(u1.setCell (p:=⟨p,0,none⟩) (fun _=>.inr (.inl rfl)) (.slice a1 q1 k1)).alloc (.cells #[.slice co q cc] 118);exact(u2.grown dz.out (fun k hk _=>.inr (.inr hk))).setCell (p:=⟨p,2,none⟩) (fun _=>.inr (.inl rfl)) _
def Nm(S:Nat->Prop)(w:World)(k:Nat):Prop:=S k/\(IsT w k 125\/IsT w k 118)
def ChgPost(S:Nat->Prop)(p:Nat)(X:Nat->Prop)(D:Dk)(adr:Int->Nat)(pend:List Nd)(w:World)(r:Ending)(w':World):Prop :=
 r=.returned (.tuple #[])/\(∃ S',(∀ k,S' k->S k\/X k\/w.heap.size<=k)/\DiskA S' w' p D adr pend)/\Out (fun k=>Nm S w k\/k=p) w w'
theorem change_any(S:Nat->Prop)(w:World)(p:Nat)(D:Dk)(adr:Int->Nat)(pend:List Nd)(co:Option Addr)(cc:Nat)(c:List Nd)(h:DiskA S w p D adr pend)(hi:ChgIn S w D adr pend co c)(hl:D.later.length<=1099511627776) :
  Calls Tryz.prog 64 #[.pointer (some ⟨p,0,none⟩),.slice co c.length cc] w (ChgPost S p (fun k=>∃ a,co=some a/\a.block=k) (changeD D c) adr pend w):=by
 obtain⟨x,h⟩:=h
 have cD:x.cs.length<=1099511627776:=by
  have:=later_len (x.cs.map (·.l)) D.safe;rw[<- h.rest.later,length_map]at this;omega
 refine(change_walk w p adr D.names c _ _ _ _ _ _ _ _ _ _ _ co cc h.row h.rest.names h.rest.ch cD h.fit.names.sorted (row_small h.fit.names) hi.lay (crow_small hi.row) (fun a ha e=>(hi.apart a ha).2 (h.rest.nin _ e)) hi.len hi.cl).mono ?_;rintro r w' ⟨rfl,v1,v2,hw,ak⟩;refine⟨rfl,⟨_,fun k hk=>?_,{ x with vn:=v1,vc:=v2,cs:=x.cs++[⟨co,cc,c⟩] },ak,rest_change h hi hw,fun k hk=>?_,?_,fit_change h.fit hi.row (take_all hi.len)⟩,?_⟩
 ·rcases hk with hk|hk|hk
  ·exact .inl hk
  ·exact .inr (.inl hk)
  ·exact .inr (.inr hk.1)
 ·rcases hk with hk|⟨a,ha,rfl⟩|hk
  ·exact Nat.lt_of_lt_of_le (h.lt k hk) hw.out.size
  ·obtain⟨c0,f0,h0⟩:=(hi.apart a ha).1;exact Nat.lt_of_lt_of_le (Array.getElem?_eq_some_iff.1 h0).1 hw.out.size
  ·exact hk.2
 ·have eo:IsT w p 122:=⟨_,_,h.row⟩;rintro (hk|⟨a,ha,rfl⟩|hk)
  ·exact h.np hk
  ·exact(hi.apart a ha).1.ne eo (by decide) rfl
  ·have:=(Array.getElem?_eq_some_iff.1 h.row).1;omega
 ·exact hw.out.mono (fun k _ hk=>by
   rcases hk with hk|hk|hk
   ·exact .inl ⟨h.rest.nin k hk,.inl (own_type h.rest.names k hk)⟩
   ·exact .inr hk
   ·exact .inl ⟨h.rest.chin k hk,.inr (own_type h.rest.ch k hk)⟩)
end DG
end
section
open Go.RowKit Go.Lib Go.BigFrame
namespace DG
open OM TP TM DP DM TG TR FP
def fateV(f:Fate):Value:=.agg #[.int .i64 f.at_,.int .i64 f.what,.int .i64 f.keep,.int .i64 f.torn]
def NoneTo(fs:List Fate)(T:Int)(k:Nat):Prop:=∀ j f,j<k->fs[j]?=some f->f.at_≠T
theorem fate_found:∀ {fs:List Fate} {T:Int} {k:Nat} {f:Fate},NoneTo fs T k->fs[k]?=some f->f.at_=T->fateOf fs T=f
 | [],_,_,_,_,h,_=>by simp at h
 | g::fs,T,0,f,_,h,h2=>by
  simp at h;subst h;unfold fateOf;rw[find?_cons,h2];simp
 | g::fs,T,k+1,f,hn,h,h2=>by
  have h0:=hn 0 g (by omega) rfl;have:=fate_found (fs:=fs) (T:=T) (k:=k) (f:=f) (fun j x hj hx=>hn (j+1) x (by omega) hx) h h2;unfold fateOf at this ⊢;rw[find?_cons,show decide (g.at_=T)=false from decide_eq_false h0];exact this
theorem fate_none:∀ {fs:List Fate} {T:Int},NoneTo fs T fs.length->fateOf fs T=fateZ
 | [],_,_=>rfl
 | g::fs,T,hn=>by
  have h0:=hn 0 g (by simp) rfl;have:=fate_none (fs:=fs) (T:=T) (fun j x hj hx=>hn (j+1) x (by simpa using hj) hx);unfold fateOf at this ⊢;rw[find?_cons,show decide (g.at_=T)=false from decide_eq_false h0];exact this
theorem fates_at:∀(fs:List Fate) (k:Nat) (f:Fate),fs[k]?=some f->(fatesC fs)[k*4]?=some (.int .i64 f.at_)/\(fatesC fs)[k*4+1]?=some (.int .i64 f.what)/\(fatesC fs)[k*4+2]?=some (.int .i64 f.keep)/\(fatesC fs)[k*4+3]?=some (.int .i64 f.torn)
 | [],k,n,h=>by simp at h
 | x::ts,0,n,h=>by
  simp at h;subst h;exact⟨rfl,rfl,rfl,rfl⟩
 | x::ts,k+1,n,h=>by
  rw[List.getElem?_cons_succ]at h;have ih:=fates_at ts k n h
  have e:∀ j,(fatesC (x::ts))[(k+1)*4+j]?=(fatesC ts)[k*4+j]?:=fun j=>by
   show(fateC x++fatesC ts)[_]?=_;rw[List.getElem?_append_right (by show 4<=_;omega)];congr 1;show _-4=_;omega
  exact⟨(e 0).trans ih.1,(e 1).trans ih.2.1,(e 2).trans ih.2.2.1,(e 3).trans ih.2.2.2⟩
theorem own_max{w:World}{b:Nat}{e:TypeId}{size:Nat}{v:Value}{n:Nat}{xs:List Value}(h:w.ownsRow b e size v n xs):n<=9223372036854775807:=by
 have:=owns_len h;unfold maxLen at this;omega
def FateInv(fs:List Fate)(T:Int)(n:Nat)(w:World)(g0:Nat)(s10:Value)(wr:World):Prop :=
 ∃ k:Nat,s10=.int .i64 k/\k<=n/\NoneTo fs T k/\Below g0 w wr/\wr.heap[g0]?=some (.cells #[.int .i64 0,.int .i64 0,.int .i64 0,.int .i64 0] 116 (0,0))/\g0<wr.heap.size
theorem fate_any(S:Nat->Prop)(w:World)(p:Nat)(D:Dk)(adr:Int->Nat)(pend:List Nd)(h:DiskA S w p D adr pend) :
  Calls Tryz.prog 118 #[.pointer (some ⟨p,0,none⟩)] w fun r w'=>r=.returned (fateV (fateD D))/\Below w.heap.size w w':=by
 obtain⟨x,h⟩:=h;have hr:=h.row;have di:=h.rest.fates;have cK:=h.rest.trace;have am:=(Array.getElem?_eq_some_iff.1 hr).1;unfold diskC at hr;obtain⟨af,fP,aQ,cA⟩:=owns_view di;obtain⟨fS,fL,aP,fm⟩:=owns_view cK;have eb:=own_max di;have f9:=own_max cK;obtain⟨n,hn⟩:∃ n,D.fates.length=n:=⟨_,rfl⟩;obtain⟨tl,aV⟩:∃ n,D.trace.length=n:=⟨_,rfl⟩;rw[aQ,aP,hn,aV]at hr;obtain⟨fs,cv⟩:∃ fs,D.fates=fs:=⟨_,rfl⟩;rw[cv]at cA hn;rw[cv,hn]at eb;rw[hn]at cA;rw[aV]at f9
 have fD:Hid (0<n->∃ g,af=some ⟨g,0,none⟩/\g<w.heap.size/\∀ j,j<n*4->w.cell? ⟨g,j,none⟩=(fatesC fs)[j]?):=hid (fun h0=>by
  obtain⟨g,h1,h2,_,h3⟩:=cA h0
  exact⟨g,h1,h2,h3⟩)
 have HN:=hid hn;have HR:=hid hr;have d9:Hid (fateD D=fateOf fs ((tl:Int)-1)):=hid (by unfold fateD;rw[cv,aV]);obtain⟨vn,aj⟩:∃ v,x.vn=v:=⟨_,rfl⟩;clear di cK aQ aP cA fm hn aV cv h hr aj;have W0:Hid (Below w.heap.size w (w.alloc (.cells #[.int .i64 0,.int .i64 0,.int .i64 0,.int .i64 0] 116))):=hid ((Below.refl _ _).alloc (Nat.le_refl _) _);have G0:Hid ((w.alloc (.cells #[.int .i64 0,.int .i64 0,.int .i64 0,.int .i64 0] 116)).heap[w.heap.size]?=some (.cells #[.int .i64 0,.int .i64 0,.int .i64 0,.int .i64 0] 116 (0,0))):=hid (heap_alloc_new w _);obtain⟨-,-,-,-,-,-,c6,-,c8,-⟩:=row9 HR.out;go_enter Tryz.func118,Tryz.ntmps118;repeat (first|go_skip|go_guarded|go_step|go_upon)
 go_loopw [10] (fun s10 wr=>FateInv fs ((tl:Int)-1) n w w.heap.size s10 wr) (fun s10 _=>n-(RowKit.intOf s10).toNat)
 case atStart=>exact⟨0,rfl,Nat.zero_le _,fun j f hj=>by omega,W0.out,G0.out,by simp⟩
 case round =>
  obtain⟨k,rfl,hk,aM,hb,dd,cL⟩:=hrel;have HB:=hid hb;have cZ:=hid aM;have dR:=hid dd;have fA:=hb.size;obtain⟨-,-,-,-,-,-,-,-,d8,-⟩:=row9 ((hb.block p am).trans HR.out);by_cases al:k<n
  ·have bN:(k:Int)<n:=by omega
   obtain⟨g,rfl,hg,hc⟩:=fD.out (by omega);obtain⟨f,hf⟩:∃ f,fs[k]?=some f:=⟨fs[k]'(by rw[HN.out];exact al),getElem?_eq_getElem _⟩;obtain⟨y0,y1,y2,y3⟩:=fates_at fs k f hf;have e0:=((hb.cell (p:=⟨g,k*4,none⟩) hg).trans (hc _ (by omega))).trans y0;have e1:=((hb.cell (p:=⟨g,k*4+1,none⟩) hg).trans (hc _ (by omega))).trans y1;have e2:=((hb.cell (p:=⟨g,k*4+2,none⟩) hg).trans (hc _ (by omega))).trans y2;have e3:=((hb.cell (p:=⟨g,k*4+3,none⟩) hg).trans (hc _ (by omega))).trans y3;obtain⟨fa,fw,fk,ft⟩:=f;simp only at e0 e1 e2 e3;have HF:=hid hf;have W1:Hid (Below w.heap.size w (wr.alloc (.cells #[.int .i64 fa,.int .i64 fw,.int .i64 fk,.int .i64 ft] 116))):=hid (HB.out.alloc fA _);have G1:Hid ((wr.alloc (.cells #[.int .i64 fa,.int .i64 fw,.int .i64 fk,.int .i64 ft] 116)).heap[w.heap.size]?=some (.cells #[.int .i64 0,.int .i64 0,.int .i64 0,.int .i64 0] 116 (0,0))):=hid ((Below.heap_alloc wr _ _ cL).trans dR.out);have fK:IntKind.i64.wrap ((tl:Int)-1)=(tl:Int)-1:=by rw[IntKind.wrap_i64];omega
   have RV:Hid ((wr.alloc (.cells #[.int .i64 fa,.int .i64 fw,.int .i64 fk,.int .i64 ft] 116)).heap[wr.heap.size]?=some (.cells #[.int .i64 fa,.int .i64 fw,.int .i64 fk,.int .i64 ft] 116 (0,0))):=hid (heap_alloc_new wr _);have z0:=cell_regrown (row4 RV.out).1;have z8:=cell_regrown (cell?_alloc_some (.cells #[.int .i64 fa,.int .i64 fw,.int .i64 fk,.int .i64 ft] 116) d8);have fJ:Below (wr.alloc (.cells #[.int .i64 fa,.int .i64 fw,.int .i64 fk,.int .i64 ft] 116)).heap.size (wr.alloc (.cells #[.int .i64 fa,.int .i64 fw,.int .i64 fk,.int .i64 ft] 116)) (wr.alloc (.cells #[.int .i64 fa,.int .i64 fw,.int .i64 fk,.int .i64 ft] 116)):=Below.refl _ _;clear hc hf y0 y1 y2 y3 hb aM dd al;by_cases he:fa=(tl:Int)-1
   ·have hq:(fa==((tl:Int)-1))=true:=by rw[he];exact beq_self_eq_true _
    have HV:Hid (fateD D=⟨fa,fw,fk,ft⟩):=hid (by rw[d9.out];exact fate_found cZ.out HF.out he);clear he;repeat (first|go_skip|go_guarded|go_step|go_upon)
    with_reducible refine wp_region_quiet_below (by kernel_rfl) (by kernel_rfl) ?_
    repeat (go_big_quiet_step (fail))
    refine wpQuiet_nil ?_;intro _ hw';obtain⟨⟨dq,aC⟩,aq⟩:=hw';subst aq;have aZ:=below_regrown (wr.alloc (.cells #[.int .i64 fa,.int .i64 fw,.int .i64 fk,.int .i64 ft] 116)) dq aC;have W5:=hid (Below.trans W1.out (aZ.mono W1.out.size));have G5:=hid ((aZ.block w.heap.size (Array.getElem?_eq_some_iff.1 G1.out).1).trans G1.out);have R5:=hid ((aZ.block wr.heap.size (by simp)).trans RV.out);clear z0 z8 aZ;generalize Go.Sort.grow (redrawn (wr.alloc (.cells #[.int .i64 fa,.int .i64 fw,.int .i64 fk,.int .i64 ft] 116)) dq) aC=w5 at W5 G5 R5 ⊢;obtain⟨t0,t1,t2,t3,tf⟩:=row4 G5.out;obtain⟨q0,q1,q2,q3,-⟩:=row4 R5.out;repeat (first|go_skip|go_guarded|go_step|go_upon)
    refine bodyPost_ret (v:=.agg #[.int .i64 fa,.int .i64 fw,.int .i64 fk,.int .i64 ft]) ?_ rfl ⟨by rw[HV.out];rfl,below4g W5.out _ _ _ _⟩;rw[results_cell1 rfl];go_simp
   ·have hq:(fa==((tl:Int)-1))=false:=by simpa using he
    have eI:Hid (NoneTo fs ((tl:Int)-1) (k+1)):=hid (fun j f hj hf=>by
     rcases Nat.lt_or_ge j k with h1|h1
     ·exact cZ.out j f h1 hf
     ·obtain rfl:j=k:=by omega
      rw[HF.out]at hf;cases hf
      exact he)
    clear he;repeat (first|go_skip|go_guarded|go_step|go_upon)
    with_reducible refine wp_region_quiet_below (by kernel_rfl) (by kernel_rfl) ?_
    repeat (go_big_quiet_step (fail))
    refine wpQuiet_nil ?_;intro _ hw';obtain⟨⟨dq,aC⟩,aq⟩:=hw';subst aq;have aZ:=below_regrown (wr.alloc (.cells #[.int .i64 fa,.int .i64 fw,.int .i64 fk,.int .i64 ft] 116)) dq aC;have W5:=hid (Below.trans W1.out (aZ.mono W1.out.size));have G5:=hid ((aZ.block w.heap.size (Array.getElem?_eq_some_iff.1 G1.out).1).trans G1.out);have R5:=hid ((aZ.block wr.heap.size (by simp)).trans RV.out);clear z0 z8 aZ;generalize Go.Sort.grow (redrawn (wr.alloc (.cells #[.int .i64 fa,.int .i64 fw,.int .i64 fk,.int .i64 ft] 116)) dq) aC=w5 at W5 G5 R5 ⊢;repeat (first|go_skip|go_guarded|go_step|go_upon)
    exact⟨⟨k+1,by go_num,by omega,eI.out,W5.out,G5.out,(Array.getElem?_eq_some_iff.1 G5.out).1⟩,by simp[RowKit.intOf];omega⟩
  ·have bN:¬(k:Int)<n:=by omega
   have HV:Hid (fateD D=fateZ):=hid (by
    rw[d9.out];have cb:k=fs.length:=by rw[HN.out];omega
    exact fate_none (cb ▸ cZ.out))
   clear al;obtain⟨t0,t1,t2,t3,tf⟩:=row4 dR.out;clear hb aM dd;repeat (first|go_skip|go_guarded|go_step|go_upon)
   refine bodyPost_ret (v:=.agg #[.int .i64 0,.int .i64 0,.int .i64 0,.int .i64 0]) ?_ rfl ⟨by rw[HV.out];rfl,below4g HB.out _ _ _ _⟩;rw[results_cell1 rfl];go_simp
end DG
end
section
open Go.RowKit Go.Lib Go.BigFrame
namespace DG
open OM TP TM DP DM TG TR FP
theorem row6{W:World}{b:Nat}{a0 a1 a2 a3 a4 a5:Value}{t:TypeId}(h:W.heap[b]?=some (.cells #[a0,a1,a2,a3,a4,a5] t (0,0))) :
  W.cell? ⟨b,0,none⟩=some a0/\W.cell? ⟨b,1,none⟩=some a1/\W.cell? ⟨b,2,none⟩=some a2/\W.cell? ⟨b,3,none⟩=some a3/\W.cell? ⟨b,4,none⟩=some a4/\W.cell? ⟨b,5,none⟩=some a5/\∀ j,W.frozen? ⟨b,j,none⟩=false :=
 ⟨by rw[cell_of_row W b 0 _ _ _ h];rfl,by rw[cell_of_row W b 1 _ _ _ h];rfl,by rw[cell_of_row W b 2 _ _ _ h];rfl,by rw[cell_of_row W b 3 _ _ _ h];rfl,by rw[cell_of_row W b 4 _ _ _ h];rfl,by rw[cell_of_row W b 5 _ _ _ h];rfl,fun j=>frozen_of_row W b j _ _ h⟩
theorem str_to(D T:ByteArray)(q:Nat)(l:List UInt8)(hD:D.data.toList=l)(hT:T.data.toList=l.take q)(h:q<=l.length)(W:World) :
  (Instr.slice 9 (.string D) none (some (.int .i64 (q:Nat))) none).run Tryz.prog W=.ok (.string T) W:=by
 have hs:D.size=l.length:=by rw[size_eq,hD]
 rw[run_slice_string_to_if W 9 D .i64 q Tryz.underlying9,if_pos (by omega)]
 have e:D.extract 0 (q:Int).toNat=T:=by
  apply ByteArray.ext;apply Array.ext';rw[Lib.extract_from_zero,hT,hD];simp
 rw[e]
theorem clean_any(g:Nat)(k:Int)(i:Ino)(torn:Int)(w:World)(h:InoAt w g k i)(hl:i.data.length<=65536) :
  Calls Tryz.prog 165 #[.pointer (some ⟨g,0,none⟩),.int .i64 torn] w fun r w'=>r=.returned (.tuple #[])/\InoAt w' g k (clean torn i)/\Turn g w w':=by
 obtain⟨tm,kd,md,dt,dy⟩:=i;obtain⟨D,hD,ca⟩:=txt_of dt;simp only at hl;unfold InoAt inoC at h;simp only at h;rw[hD]at h;have cL:=(Array.getElem?_eq_some_iff.1 h).1;have HR:=hid h;obtain⟨-,-,-,-,c4,c5,cf⟩:=row6 h
 cases dy with
 | true =>
  obtain⟨q,hq⟩:∃ q,min torn.toNat dt.length=q:=⟨_,rfl⟩;obtain⟨t0,dM⟩:∃ t0,torn.toNat=t0:=⟨_,rfl⟩;have eQ:max torn 0=(t0:Int):=by omega
  have eM:D.size=dt.length:=by rw[size_eq,ca]
  have fh:min (t0:Int) (D.size:Int)=(q:Int):=by omega
  obtain⟨T,hT,dA⟩:=txt_of (dt.take q);have fv:=str_to D T q dt ca dA (by omega)
  have HC:Hid (clean torn ⟨tm,kd,md,dt,true⟩=⟨tm,kd,md,dt.take q,false⟩):=hid (by
   unfold clean;simp only[if_true]
   rw[<- hq,dM,List.take_eq_take_min])
  have f4:=cell_regrown c4;have HT:=hid hT;clear h hD ca hq dM eM dA hT;go_enter Tryz.func165,Tryz.ntmps165;repeat (first|go_skip|go_guarded|go_step|go_upon)
  with_reducible refine QT.region_tail 14 (by kernel_rfl) (by kernel_rfl) ?_
  simp only[List.take_succ_cons,List.take_zero,List.drop_succ_cons,List.drop_zero];repeat (go_big_quiet_step (fail))
  refine wpQuiet_nil ?_;intro _ hw';obtain⟨⟨dq,aC⟩,aq⟩:=hw';subst aq;have hb:=below_regrown w dq aC;have W5:=hid (turn_below (g:=g) hb);have R5:=hid ((hb.block g cL).trans HR.out);clear f4 hb;generalize Go.Sort.grow (redrawn w dq) aC=w5 at W5 R5 ⊢;obtain⟨-,-,-,-,d4,d5,df⟩:=row6 R5.out;repeat (first|go_skip|go_guarded|go_step|go_upon)
  go_end0
  refine⟨rfl,?_,(W5.out.setCell (p:=⟨g,4,none⟩) (fun _=>rfl) _).setCell (p:=⟨g,5,none⟩) (fun _=>rfl) _⟩;rw[HC.out];unfold InoAt inoC;simp only;rw[HT.out];exact row_set (j:=5) (row_set (j:=4) R5.out _) _
 | false =>
  have HC:Hid (clean torn ⟨tm,kd,md,dt,false⟩=⟨tm,kd,md,dt,false⟩):=hid rfl;have HT:=hid hD;clear h hD ca hl;go_enter Tryz.func165,Tryz.ntmps165;repeat (first|go_skip|go_guarded|go_step|go_upon)
  go_end0
  refine⟨rfl,?_,(Out.refl (fun k=>k=g) w).setCell (p:=⟨g,5,none⟩) (fun _=>rfl) _⟩;rw[HC.out];unfold InoAt inoC;simp only;rw[HT.out];exact row_set (j:=5) HR.out _
theorem settle_walk(w:World)(p:Nat)(adr:Int->Nat)(ns:List Nd)(vn vs vc vf ve vt:Value)(bo:Bool)(lz cz:Nat)
  (hr:w.heap[p]?=some (.cells #[vn,vs,vc,.bool bo,.int .i64 (lz:Nat),.int .i64 (cz:Nat),vf,ve,vt] 122 (0,0))) (hn:OwnE w adr vn ns) (aB:ns.length<=1000) :
  Calls Tryz.prog 55 #[.pointer (some ⟨p,0,none⟩)] w fun r w'=>r=.returned (.tuple #[])/\∃ v1,OwnE w' adr v1 ns/\(∀ g,v1.ownBlock=some g->w.heap.size<=g) /\
   w'.heap[p]?=some (.cells #[vn,v1,.slice none 0 0,.bool bo,.int .i64 (lz:Nat),.int .i64 (cz:Nat),vf,ve,vt] 122 (0,0))/\Turn p w w':=by
 have am:=(Array.getElem?_eq_some_iff.1 hr).1;obtain⟨ao,cap,aj,aa,aA,aM,bV⟩:=layE_own hn
 have CC:Hid (Calls Tryz.prog 116 #[.slice ao ns.length cap] w (ClPost 125 2 ns.length (ensC adr ns) w)):=hid (clE_any ao ns.length cap (ensC adr ns) w (fun ad ha=>by subst ha;exact layE_cells aa) (ens_len _ _) (ens_one _ _) (fun ha=>by
  have:=aM ha
  omega) (by omega))
 obtain⟨n,dp⟩:∃ n,ns.length=n:=⟨_,rfl⟩;have HN:=hid dp;rw[dp]at CC aj;have HR:=hid hr;have HV:=hid aj;obtain⟨c0,c1,c2,-,-,-,-,-,-,cf⟩:=row9 hr;rw[aj]at c0;clear hn aa aA aM bV aB dp hr aj;go_enter Tryz.func55,Tryz.ntmps55;repeat (first|go_skip|go_guarded|go_step|go_upon)
 refine CC.out.mono ?_;rintro r w1 ⟨v1,rfl,aI,aF⟩;simp only[];obtain⟨a1,k1,b7,ay⟩:=owns_view aI;clear ay;subst b7;have aR:=hid aI;have bx:=hid aF;have R1:Hid (w1.heap[p]?=some (.cells #[vn,vs,vc,.bool bo,.int .i64 (lz:Nat),.int .i64 (cz:Nat),vf,ve,vt] 122 (0,0))):=hid ((aF.block p am).trans HR.out);obtain⟨c0,c1,c2,-,-,-,-,-,-,cf⟩:=row9 R1.out;rw[HV.out]at c0;clear aI aF;repeat (first|go_skip|go_guarded|go_step|go_upon)
 go_end0
 have aS:∀ k,k≠p->((w1.setCell ⟨p,1,none⟩ (.slice a1 n k1)).setCell ⟨p,2,none⟩ (.slice none 0 0)).heap[k]?=w1.heap[k]?:=fun k hk=>(set_other _ p 2 k _ hk).trans (set_other _ p 1 k _ hk);refine⟨rfl,.slice a1 n k1,?_,fun g hg=>(aR.out.lt g hg).1,row_set (j:=2) (row_set (j:=1) R1.out _) _,((turn_below bx.out).setCell (p:=⟨p,1,none⟩) (fun _=>rfl) _).setCell (p:=⟨p,2,none⟩) (fun _=>rfl) _⟩;refine own_same (owns_base (base:=w.heap.size) ?_ 0 (Nat.zero_le _)) (fun g hg=>aS g (fun e=>?_))
 ·rw[HN.out];exact aR.out
 ·have:=(aR.out.lt g hg).1;omega
end DG
end
section
open Go.RowKit Go.Lib Go.BigFrame
namespace DG
open OM TP TM DP DM TG TR FP
theorem csl_to(ao:Option Addr)(n k cap:Nat)(h:k<=cap)(W:World) :
  (Instr.slice 120 (.slice ao n cap) none (some (.int .i64 (k:Nat))) none).run Tryz.prog W=.ok (.slice ao k cap) W:=by
 rw[run_slice_h W 120 ao n cap (by kernel_rfl) .i64 k (by omega) (by omega),show Tryz.prog.elem 120=118 by kernel_rfl];rw[show(sizeOf 118).run Tryz.prog W=.ok 1 W by simp[go_sem]];simp only[Result.andThen,sliced,Int.toNat_natCast,Nat.sub_zero,Nat.zero_mul];congr 2;split
 ·rfl
 ·cases ao with
  | none=>rfl
  | some a=>simp[add_zero_addr]
theorem clean_twice(torn:Int)(i:Ino):clean torn (clean torn i)=clean torn i:=by
 unfold clean;by_cases h:i.dirty=true
 ·rw[if_pos h];simp
 ·rw[if_neg h,if_neg h]
theorem clean_data{torn:Int}{i:Ino}{m:Nat}(h:i.data.length<=m):(clean torn i).data.length<=m:=by
 unfold clean;split
 ·simp only[length_take];omega
 ·exact h
theorem ino_map{I:List Ino}{torn:Int}(k:Int):inoOf (I.map (clean torn)) k=clean torn (inoOf I k):=by
 unfold inoOf;rw[getD_eq_getElem?_getD,getD_eq_getElem?_getD,getElem?_map]
 cases I[k.toNat-1]? with
 | none=>rfl
 | some i=>rfl
theorem ino_small{D:Dk}(h:Fit D)(k:Int):(inoOf D.inos k).data.length<=65536:=by
 unfold inoOf;rw[getD_eq_getElem?_getD]
 cases hi:D.inos[k.toNat-1]? with
 | none=>exact Nat.zero_le _
 | some i=>exact h.data i (mem_of_getElem? hi)
theorem kept_end{D:Dk}{cs:List (List Nd)}(h:D.later=laterOf D.safe cs)(keep:Int):keptD D keep=endOf D.safe (cs.take (keepN D keep)):=by
 have hl:cs.length=D.later.length:=by rw[h,later_len]
 unfold keptD;by_cases h0:keepN D keep=0
 ·rw[if_pos h0,h0];rfl
 ·rw[if_neg h0,getD_eq_getElem?_getD,h,later_get cs D.safe (keepN D keep-1) (by unfold keepN at *;omega),show keepN D keep-1+1=keepN D keep by omega];rfl
theorem end_row{D:Dk}(h:Fit D){cs:List (List Nd)}(hl:D.later=laterOf D.safe cs)(j:Nat)(hj:j<=cs.length):Row D.inos.length (endOf D.safe (cs.take j)):=by
 cases j with
 | zero=>exact h.safe
 | succ j =>
  have:=later_get cs D.safe j (by omega);rw[<- hl]at this;exact h.later _ (mem_of_getElem? this)
theorem end_succ{s:List Nd}{cs:List (List Nd)}{j:Nat}{c:List Nd}(h:cs[j]?=some c):endOf s (cs.take (j+1))=withE (endOf s (cs.take j)) c:=by
 rw[take_add_one,h,Option.toList_some,end_snoc]
theorem kept_row{D:Dk}(h:Fit D)(keep:Int):Row D.inos.length (keptD D keep):=by
 unfold keptD;split
 ·exact h.safe
 ·rw[getD_eq_getElem?_getD]
  cases hi:D.later[keepN D keep-1]? with
  | none=>exact Row.nil _
  | some l=>exact h.later l (mem_of_getElem? hi)
theorem kept_live{D:Dk}(keep:Int):∀ e∈keptD D keep,e∈liveL D:=fun e he=>by
 unfold keptD at he;unfold liveL;split at he
 ·exact mem_append_right _ (mem_append_left _ he)
 ·rw[getD_eq_getElem?_getD]at he
  cases hi:D.later[keepN D keep-1]? with
  | none=>rw[hi]at he;cases he
  | some l =>
   rw[hi]at he;exact mem_append_right _ (mem_append_right _ (List.mem_flatten.2 ⟨l,mem_of_getElem? hi,he⟩))
theorem fit_crash{D:Dk}(h:Fit D)(keep torn:Int):Fit (crashD D keep torn):=by
 have hl:(crashD D keep torn).inos.length=D.inos.length:=by show(D.inos.map _).length=_;rw[length_map]
 have hr:=kept_row h keep;refine⟨by rw[hl];exact hr,by rw[hl];exact hr,(fun l hl=>by cases hl),fun i hi=>?_⟩;obtain⟨j,hj,rfl⟩:=List.mem_map.1 (show i∈D.inos.map (clean torn) from hi);exact clean_data (h.data j hj)
def CrInv(w:World)(p:Nat)(adr:Int->Nat)(vn vs vc vf ve vt:Value)(bo:Bool)(lz cz:Nat)(s:List Nd)(cls:List (List Nd))(ks:Nat)(s24:Value)(wr:World):Prop :=
 ∃(j:Nat) (u:Value),s24=.int .i64 j/\j<=ks/\OwnE wr adr u (endOf s (cls.take j))/\(∀ g,u.ownBlock=some g->vs.ownBlock=some g\/w.heap.size<=g)/\Out (fun k=>vs.ownBlock=some k\/k=p) w wr /\
  wr.heap[p]?=some (.cells #[vn,u,vc,.bool bo,.int .i64 (lz:Nat),.int .i64 (cz:Nat),vf,ve,vt] 122 (0,0))
def ClInv(w:World)(adr:Int->Nat)(live kept:List Nd)(I:List Ino)(torn:Int)(n:Nat)(s50:Value)(wr:World):Prop :=
 ∃ k:Nat,s50=.int .i64 k/\k<=n/\(∀ f∈live,f.kind≠0->InoAt wr (adr f.kind) f.kind (inoOf I f.kind)\/InoAt wr (adr f.kind) f.kind (clean torn (inoOf I f.kind))) /\
  (∀(j:Nat) e,j<k->kept[j]?=some e->InoAt wr (adr e.kind) e.kind (clean torn (inoOf I e.kind)))/\Out (fun b=>∃ f∈live,f.kind≠0/\adr f.kind=b) w wr
structure CrashW(w:World)(p:Nat)(adr:Int->Nat)(live kept:List Nd)(I:List Ino)(torn:Int)(vs vf ve vt:Value)(lz cz:Nat)(v1 v2:Value)(w':World):Prop where
 own1:OwnE w' adr v1 kept
 blk1:∀ g,v1.ownBlock=some g->vs.ownBlock=some g\/w.heap.size<=g
 own2:OwnE w' adr v2 kept
 blk2:∀ g,v2.ownBlock=some g->w.heap.size<=g/\v1.ownBlock≠some g
 inos:∀ e∈kept,e.kind≠0->InoAt w' (adr e.kind) e.kind (clean torn (inoOf I e.kind))
 row:w'.heap[p]?=some (.cells #[v1,v2,.slice none 0 0,.bool false,.int .i64 (lz:Nat),.int .i64 (cz:Nat),vf,ve,vt] 122 (0,0))
 out:Out (fun k=>vs.ownBlock=some k\/k=p\/∃ f∈live,f.kind≠0/\adr f.kind=k) w w'
theorem crash_walk(S:Nat->Prop)(w:World)(p:Nat)(D:Dk)(adr:Int->Nat)(x:Parts)(keep torn:Int)(h:DiskX S w p D adr [] x) :
  Calls Tryz.prog 119 #[.pointer (some ⟨p,0,none⟩),.int .i64 keep,.int .i64 torn] w fun r w'=>r=.returned (.tuple #[])/\∃ v1 v2,
   CrashW w p adr (liveL D) (keptD D keep) D.inos torn x.vs x.vf x.ve x.vt D.inos.length D.clock v1 v2 w':=by
 have hr:=h.row;unfold diskC at hr;have am:=(Array.getElem?_eq_some_iff.1 hr).1;have pT:IsT w p 122:=⟨_,_,hr⟩;obtain⟨a2,n2,aE,bC⟩:=owns_view h.rest.ch;obtain⟨m,hm⟩:∃ m,x.cs.length=m:=⟨_,rfl⟩;obtain⟨ks,cq⟩:∃ ks,keepN D keep=ks:=⟨_,rfl⟩;have aU:D.later.length=m:=by rw[h.rest.later,later_len,length_map,hm]
 have fN:m<=n2:=by
  rcases h.rest.ch.2 with ⟨_,h0⟩|⟨g,cap,be,e,_,_,h1,_⟩
  ·omega
  ·rw[aE]at e;injection e with _ _ e3;omega
 have dm:=own_max h.rest.ch;obtain⟨k0,fq⟩:∃ k0,keep.toNat=k0:=⟨_,rfl⟩;have eQ:max keep 0=(k0:Int):=by omega
 have fh:min (k0:Int) (m:Int)=(ks:Int):=by
  rw[<- cq];unfold keepN;omega
 have eT:ks<=m:=by rw[<- cq];unfold keepN;omega
 have fv:=csl_to a2 m ks n2 (by omega);obtain⟨vn,aj⟩:∃ v,x.vn=v:=⟨_,rfl⟩;obtain⟨vs,aT⟩:∃ v,x.vs=v:=⟨_,rfl⟩;obtain⟨vf,aQ⟩:∃ v,x.vf=v:=⟨_,rfl⟩;obtain⟨ve,bm⟩:∃ v,x.ve=v:=⟨_,rfl⟩;obtain⟨vt,aP⟩:∃ v,x.vt=v:=⟨_,rfl⟩;obtain⟨bo,bA⟩:∃ v,(!D.off)=v:=⟨_,rfl⟩;obtain⟨lz,bt⟩:∃ v,D.inos.length=v:=⟨_,rfl⟩;obtain⟨cz,bs⟩:∃ v,D.clock=v:=⟨_,rfl⟩;have HX:=hid h;have HK:Hid (keptD D keep=endOf D.safe ((x.cs.map (·.l)).take ks)):=hid (by rw[kept_end h.rest.later keep,cq]);rw[hm]at aE bC dm;rw[aj,aT,aE,aQ,bm,aP,bA,bt,bs]at hr;rw[aT,aQ,bm,aP,bt,bs];obtain⟨K,hK⟩:∃ K,keptD D keep=K:=⟨_,rfl⟩;obtain⟨L,hL⟩:∃ L,liveL D=L:=⟨_,rfl⟩;obtain⟨I,hI⟩:∃ I,D.inos=I:=⟨_,rfl⟩;rw[hK,hL,hI];have eO:=hid hK;have eD:=hid hL;have eW:=hid hI;clear hK hL hI;have HM:=hid hm
 have f6:Hid (0<m->∃ g,a2=some ⟨g,0,none⟩/\g<w.heap.size/\∀ j,j<m->w.cell? ⟨g,j,none⟩=(x.cs.map chV)[j]?):=hid (fun h0=>by
  obtain⟨g,e1,e2,_,e3⟩:=bC h0
  exact⟨g,e1,e2,fun j hj=>e3 j (by omega)⟩)
 have bX:=hid aT;have fd:=hid aE;have bW:=hid pT
 have dT:vs.ownBlock≠some p:=fun e=>by
  rw[<- aT]at e;exact(own_type h.rest.safe p e).ne pT (by decide) rfl
 have cI:=hid dT;obtain⟨-,-,c2,-,-,-,-,-,-,cf⟩:=row9 hr;have f2:=cell_regrown c2;have H0:Hid (CrInv w p adr vn vs (.slice a2 m n2) vf ve vt bo lz cz D.safe (x.cs.map (·.l)) ks (.int .i64 0) w):=hid ⟨0,vs,rfl,Nat.zero_le _,by rw[<- aT];exact h.rest.safe,fun g hg=>.inl hg,Out.refl _ _,hr⟩;clear cq aU fq bC aE aj aT aQ bm aP bA bt bs hm pT dT h hr;go_enter Tryz.func119,Tryz.ntmps119;repeat (first|go_skip|go_guarded|go_step|go_upon)
 with_reducible refine wp_region_quiet_below (by kernel_rfl) (by kernel_rfl) ?_
 repeat (go_big_quiet_step (fail))
 refine wpQuiet_nil ?_;intro _ hw';obtain⟨⟨dq,aC⟩,aq⟩:=hw';subst aq;have cg:=below_regrown w dq aC
 have eg:Hid (CrInv w p adr vn vs (.slice a2 m n2) vf ve vt bo lz cz D.safe (x.cs.map (·.l)) ks (.int .i64 0) (Go.Sort.grow (redrawn w dq) aC)):=hid (by
  obtain⟨j,u,e1,e2,e3,e4,e5,e6⟩:=H0.out
  exact⟨j,u,e1,e2,owns_below e3 cg,e4,e5.thenBelow cg,(cg.block p am).trans e6⟩)
 clear f2 cg;generalize Go.Sort.grow (redrawn w dq) aC=w0 at eg ⊢;repeat (first|go_skip|go_guarded|go_step|go_upon)
 go_loopw [24] (fun s24 wr=>CrInv w p adr vn vs (.slice a2 m n2) vf ve vt bo lz cz D.safe (x.cs.map (·.l)) ks s24 wr) (fun s24 _=>ks-(RowKit.intOf s24).toNat)
 case atStart=>exact eg.out
 case round =>
  obtain⟨j,u,rfl,hj,ho,bq,ag,ak⟩:=hrel;by_cases al:j<ks
  ·have eN:(j:Int)<ks:=by omega
   obtain⟨g,rfl,hg,hc⟩:=f6.out (by omega);obtain⟨e,he⟩:∃ e,x.cs[j]?=some e:=⟨x.cs[j]'(by rw[HM.out];omega),getElem?_eq_getElem _⟩
   have bM:wr.cell? ⟨g,j,none⟩=some (.slice e.a e.l.length e.c):=by
    have e1:w.cell? ⟨g,j,none⟩=some (chV e):=by rw[hc j (by omega),getElem?_map,he];rfl
    have dX:IsT w g 118:=by
     refine own_type HX.out.rest.ch g ?_;rw[fd.out];rfl
    refine(ag.cell (p:=⟨g,j,none⟩) hg (fun hh=>?_)).trans e1;rcases hh with hh|hh
    ·rw[<- bX.out]at hh;exact dX.ne (own_type HX.out.rest.safe g hh) (by decide) rfl
    ·exact dX.ne bW.out (by decide) hh
   have ai:=mem_of_getElem? he;obtain⟨g1,g2,g3⟩:=HX.out.rest.each e ai;have ds:(x.cs.map (·.l))[j]?=some e.l:=by rw[getElem?_map,he];rfl
   have aG:=HX.out.rest.lens j e.l ds;have dl:=end_row HX.out.fit HX.out.rest.later j (by rw[length_map,HM.out];omega);have bF:∀ a,e.a=some a->a.block<w.heap.size:=fun a ha=>HX.out.lt _ (g3 a ha).1
   have aa:LayE wr adr e.a e.l:=g1.same ag.size (fun a ha hlt'=>ag.block _ hlt' (fun hh=>by
    rcases hh with hh|hh
    ·rw[<- bX.out]at hh;exact(g3 a ha).2.2.2 hh
    ·exact HX.out.np (hh ▸ (g3 a ha).1)))
   have cw:=with_any adr u (endOf D.safe ((x.cs.map (·.l)).take j)) e.a e.c e.l wr ho dl.sorted (row_small dl) aa g2 (fun a ha hh=>by
    rcases bq _ hh with h5|h5
    ·rw[<- bX.out]at h5;exact(g3 a ha).2.2.2 h5
    ·have:=bF a ha;omega) aG.2 aG.1
   rw[<- end_succ ds]at cw;obtain⟨au,cu,hu,b0⟩:=owns_view ho;obtain⟨nu,b8⟩:∃ nu,(endOf D.safe ((x.cs.map (·.l)).take j)).length=nu:=⟨_,rfl⟩;rw[b8]at hu;obtain⟨ea,dB⟩:∃ z,e.a=z:=⟨_,rfl⟩;obtain⟨el,bJ⟩:∃ z,e.l.length=z:=⟨_,rfl⟩;obtain⟨ec,e9⟩:∃ z,e.c=z:=⟨_,rfl⟩;rw[dB,bJ,e9]at cw bM
   have CW:Hid (Calls Tryz.prog 125 #[.slice au nu cu,.slice ea el ec] wr (RowPost adr (endOf D.safe ((x.cs.map (·.l)).take (j+1))) u wr)):=hid (by
    rw[hu]at cw ⊢
    exact cw)
   have ci:=hid bq;have cN:=hid ag;have da:=hid ak;have ej:=ag.size
   have bd:u.ownBlock≠some p:=fun hh=>by
    rcases bq _ hh with h5|h5
    ·exact cI.out h5
    ·omega
   have cj:=hid bd;have aL:=ak;rw[hu]at aL;obtain⟨-,c1,-,-,-,-,-,-,-,cf⟩:=row9 aL;clear hc he ai g1 g2 g3 ds aG dl bF aa cw hu b0 b8 dB bJ e9 bq ag ak aL ho bd al;repeat (first|go_skip|go_guarded|go_step|go_upon)
   refine CW.out.mono ?_;rintro r w2 ⟨v2,rfl,o2,b2,u2⟩;simp only[];obtain⟨a3,c3,dL,cU⟩:=owns_view o2;obtain⟨n3,dw⟩:∃ n3,(endOf D.safe ((x.cs.map (·.l)).take (j+1))).length=n3:=⟨_,rfl⟩;rw[dw]at dL;subst dL;have O2:=hid o2;have eu:=hid (blocks_two ej ci.out b2);have R2:=hid (u2.row da.out cj.out)
   have U2:Hid (Out (fun k=>vs.ownBlock=some k\/k=p) w w2):=hid (cN.out.then u2 (fun k hk hT=>by
    rcases ci.out k hT with h5|h5
    ·exact .inl h5
    ·omega))
   obtain⟨-,c1,-,-,-,-,-,-,-,cf⟩:=row9 R2.out;clear o2 b2 u2 cU dw;repeat (first|go_skip|go_guarded|go_step|go_upon)
   refine⟨⟨j+1,.slice a3 n3 c3,by go_num,by omega,own_same O2.out (fun g' hg'=>set_other w2 p 1 g' _ (fun hh=>?_)),eu.out,U2.out.setCell (p:=⟨p,1,none⟩) (fun _=>.inr rfl) _,row_set (j:=1) R2.out _⟩,by simp[RowKit.intOf];omega⟩;rcases eu.out g' hg' with h5|h5
   ·exact cI.out (hh ▸ h5)
   ·omega
  ·have eN:¬(j:Int)<ks:=by omega
   have cE:j=ks:=by omega
   rw[cE,← HK.out]at ho;have cB:=kept_row HX.out.fit keep;have bY:=kept_live (D:=D) keep;have hL:=eD.out;have hI:=eW.out;rw[eO.out]at ho cB bY;rw[hL]at bY;obtain⟨au,cu,hu,bP,_,_,bR⟩:=layE_own ho;obtain⟨nu,b8⟩:∃ nu,K.length=nu:=⟨_,rfl⟩;rw[b8]at hu;subst hu;have dv:nu<=1000:=by have:=cB.len;omega
   have bd:(Value.slice au nu cu).ownBlock≠some p:=fun hh=>by
    rcases bq _ hh with h5|h5
    ·exact cI.out h5
    ·omega
   have aY:∀ f∈L,f.kind≠0->IsT w (adr f.kind) 173/\adr f.kind<w.heap.size/\w.heap[adr f.kind]?=some (.cells (inoC f.kind (inoOf I f.kind)) 173 (0,0)):=fun f hf h0=>by
    have:=HX.out.rest.inos f (by rw[<- hL]at hf;exact hf) h0;rw[hI]at this;exact⟨ino_type this,(Array.getElem?_eq_some_iff.1 this).1,this⟩
   have bI:∀ e∈L,∀ f∈L,e.kind≠0->f.kind≠0->adr e.kind=adr f.kind->e.kind=f.kind:=fun e he f hf=>HX.out.rest.inj e (by rw[<- hL]at he;exact he) f (by rw[<- hL]at hf;exact hf);have d7:∀ k,(inoOf I k).data.length<=65536:=fun k=>by rw[<- hI];exact ino_small HX.out.fit k
   have aJ:∀ f∈L,f.kind≠0->(wr.setCell ⟨p,0,none⟩ (.slice au nu cu)).heap[adr f.kind]?=w.heap[adr f.kind]?:=fun f hf h0=>by
    obtain⟨t1,t2,_⟩:=aY f hf h0;refine(set_other wr p 0 _ _ (t1.ne bW.out (by decide))).trans (ag.block _ t2 (fun hh=>?_));rcases hh with hh|hh
    ·rw[<- bX.out]at hh;exact t1.ne (own_type HX.out.rest.safe _ hh) (by decide) rfl
    ·exact t1.ne bW.out (by decide) hh
   have O3:Hid (OwnE (wr.setCell ⟨p,0,none⟩ (.slice au nu cu)) adr (.slice au nu cu) K):=hid (own_same ho fun g hg=>set_other wr p 0 g _ (fun hh=>bd (hh ▸ hg)));have R3:Hid ((wr.setCell ⟨p,0,none⟩ (.slice au nu cu)).heap[p]?=some (.cells #[.slice au nu cu,.slice au nu cu,.slice a2 m n2,.bool bo,.int .i64 (lz:Nat),.int .i64 (cz:Nat),vf,ve,vt] 122 (0,0))):=hid (row_set (j:=0) ak _);have U3:Hid (Out (fun k=>vs.ownBlock=some k\/k=p) w (wr.setCell ⟨p,0,none⟩ (.slice au nu cu))):=hid (ag.setCell (p:=⟨p,0,none⟩) (fun _=>.inr rfl) _);have I3:Hid (ClInv (wr.setCell ⟨p,0,none⟩ (.slice au nu cu)) adr L K I torn nu (.int .i64 0) (wr.setCell ⟨p,0,none⟩ (.slice au nu cu))):=hid ⟨0,rfl,Nat.zero_le _,fun f hf h0=>.inl ((aJ f hf h0).trans (aY f hf h0).2.2),fun j e hj=>by omega,Out.refl _ _⟩;have ct:=hid aY;have cY:=hid bI;have ek:=hid d7;have dG:=hid cB;have cT:=hid bY;have c7:=hid b8;have ci:=hid bq;have cj:=hid bd;have ey:=hid aJ;obtain⟨c0,c1,-,-,-,-,-,-,-,cf⟩:=row9 ak;clear ho bP bR bq bd aY bI d7 aJ cB bY b8 hL hI ag ak cE al;repeat (first|go_skip|go_guarded|go_step|go_upon)
   generalize wr.setCell ⟨p,0,none⟩ (.slice au nu cu)=w3 at O3 R3 U3 I3 ey ⊢
   go_loopw [50] (fun s50 wr=>ClInv w3 adr L K I torn nu s50 wr) (fun s50 _=>nu-(RowKit.intOf s50).toNat)
   case atStart=>exact I3.out
   case round =>
    obtain⟨k,rfl,hk,bZ,aU,bn⟩:=hrel
    have aa:∀(W:World),Out (fun b=>∃ f∈L,f.kind≠0/\adr f.kind=b) w3 W->OwnE W adr (.slice au nu cu) K:=fun W hW=>own_same O3.out fun g hg=>hW.block g (own_lt O3.out g hg) (fun hh=>by
     obtain⟨f,hf,h0,rfl⟩:=hh;obtain⟨t1,t2,t3⟩:=ct.out f hf h0
     exact(own_type O3.out _ hg).ne (ino_type ((ey.out f hf h0).trans t3)) (by decide) rfl)
    by_cases hlt2:k<nu
    ·have bN:(k:Int)<nu:=by omega
     obtain⟨ax,cx,ay,bi,_⟩:=layE_own (aa _ bn);injection ay with ay _ _;subst ay;obtain⟨g,o,rfl,hg,hc⟩:=bi (by rw[c7.out];omega);obtain⟨e,he⟩:∃ e,K[k]?=some e:=⟨K[k]'(by rw[c7.out];exact hlt2),getElem?_eq_getElem _⟩;have dc:=mem_of_getElem? he;have bB:e.kind≠0:=by have:=row_kind dG.out dc;omega
     have cm:=cT.out e dc;obtain⟨y0,y1⟩:=hc k e he;obtain⟨X,hX,_⟩:=txt_of e.path;rw[hX]at y0;rw[ptr_pos adr bB]at y1;obtain⟨t1,t2,t3⟩:=ct.out e cm bB;obtain⟨ga,cM⟩:∃ ga,adr e.kind=ga:=⟨_,rfl⟩
     have cc:∃ i',InoAt wr (adr e.kind) e.kind i'/\i'.data.length<=65536/\clean torn i'=clean torn (inoOf I e.kind):=by
      rcases bZ e cm bB with h5|h5
      ·exact⟨_,h5,ek.out _,rfl⟩
      ·exact⟨_,h5,clean_data (ek.out _),clean_twice _ _⟩
     obtain⟨i',cR,et,ed⟩:=cc;rw[cM]at cR y1;have BX:Hid (Below wr.heap.size wr (wr.alloc (.cells #[.string X,.pointer (some ⟨ga,0,none⟩)] 125))):=hid ((Below.refl _ _).alloc (Nat.le_refl _) _)
     have CC:Hid (Calls Tryz.prog 165 #[.pointer (some ⟨ga,0,none⟩),.int .i64 torn] (wr.alloc (.cells #[.string X,.pointer (some ⟨ga,0,none⟩)] 125)) fun r w'=>r=.returned (.tuple #[])/\InoAt w' ga e.kind (clean torn (inoOf I e.kind))/\Turn ga (wr.alloc (.cells #[.string X,.pointer (some ⟨ga,0,none⟩)] 125)) w'):=hid (by
      rw[<- ed]
      exact clean_any ga e.kind i' torn _ (inoAt_below cR BX.out) et)
     have eH:=hid bZ;have fC:=hid aU;have fI:=hid bn;have HE:=hid he;have dU:=hid cm;have dZ:=hid bB;have cG:=hid cM;clear bi hc he dc bB cm hX t1 t2 t3 cM cR et ed bZ aU bn hlt2 aa;repeat (first|go_skip|go_guarded|go_step|go_upon)
     refine CC.out.mono ?_;rintro r w5 ⟨rfl,dx,dK⟩;simp only[];have dY:=hid dx;have ei:=hid dK;clear dx dK
     have ap:∀ f:Nd,f∈L->f.kind≠0->f.kind≠e.kind->∀ i,InoAt wr (adr f.kind) f.kind i->InoAt w5 (adr f.kind) f.kind i:=fun f hf h0 av i hi=>by
      have h1:=inoAt_below hi BX.out;exact ei.out.row h1 (fun hh=>av (cY.out f hf e dU.out h0 dZ.out (by rw[cG.out];exact hh)))
     have bv:=hid ap;clear ap;repeat (first|go_skip|go_guarded|go_step|go_upon)
     refine⟨⟨k+1,by go_num,by omega,fun f hf h0=>?_,fun j f hj hf=>?_,?_⟩,by simp[RowKit.intOf];omega⟩
     ·by_cases aW:f.kind=e.kind
      ·rw[aW,cG.out];exact .inr dY.out
      ·rcases eH.out f hf h0 with h5|h5
       ·exact .inl (bv.out f hf h0 aW _ h5)
       ·exact .inr (bv.out f hf h0 aW _ h5)
     ·by_cases aW:f.kind=e.kind
      ·rw[aW,cG.out];exact dY.out
      ·have cE:j<k:=by
        rcases Nat.lt_or_ge j k with h5|h5
        ·exact h5
        ·have:j=k:=by omega
         rw[this,HE.out]at hf;cases hf;exact absurd rfl aW
       have eV:=cT.out f (mem_of_getElem? hf);have fF:f.kind≠0:=by have:=row_kind dG.out (mem_of_getElem? hf);omega
       exact bv.out f eV fF aW _ (fC.out j f cE hf)
     ·exact(fI.out.thenBelow BX.out).then ei.out (fun b _ hb=>⟨e,dU.out,dZ.out,by rw[cG.out];exact hb.symm⟩)
    ·have bN:¬(k:Int)<nu:=by omega
     have O4:OwnE wr adr (.slice au nu cu) K:=aa _ bn
     have R4:wr.heap[p]?=some (.cells #[.slice au nu cu,.slice au nu cu,.slice a2 m n2,.bool bo,.int .i64 (lz:Nat),.int .i64 (cz:Nat),vf,ve,vt] 122 (0,0)):=bn.row R3.out (fun hh=>by
      obtain⟨f,hf,h0,eP⟩:=hh
      exact(ct.out f hf h0).1.ne bW.out (by decide) eP)
     have CS:=hid (settle_walk wr p adr K _ _ _ _ _ _ _ _ _ R4 O4 (by rw[c7.out];exact dv))
     have I4:Hid (∀ e∈K,InoAt wr (adr e.kind) e.kind (clean torn (inoOf I e.kind))):=hid (fun e he=>by
      obtain⟨j,hj,eK⟩:=List.getElem_of_mem he
      exact aU j e (by have:=c7.out;omega) (by rw[<- eK];exact getElem?_eq_getElem _))
     have U4:Hid (Out (fun k=>vs.ownBlock=some k\/k=p\/∃ f∈L,f.kind≠0/\adr f.kind=k) w wr):=hid ((U3.out.mono (fun k _ h=>by rcases h with h|h;exact .inl h;exact .inr (.inl h))).then bn (fun k _ h=>.inr (.inr h)));have fE:=hid O4;clear bZ aU bn hlt2 aa O4 R4;repeat (first|go_skip|go_guarded|go_step|go_upon)
     refine CS.out.mono ?_;rintro r w6 ⟨rfl,v6,o6,b6,r6,t6⟩;simp only[];have O6:=hid o6;have B6:=hid b6;have R6:=hid r6;have T6:=hid t6;obtain⟨-,-,-,c3,-,-,-,-,-,cf⟩:=row9 r6;clear o6 b6 r6 t6;repeat (first|go_skip|go_guarded|go_step|go_upon)
     go_end0
     have eJ:=U4.out.size;have dk:=fE.out;refine⟨rfl,.slice au nu cu,v6,⟨?_,fun g hg=>ci.out g hg,?_,fun g hg=>⟨?_,fun hh=>?_⟩,fun e he h0=>?_,row_set (j:=3) R6.out _,?_⟩⟩
     ·have h1:=own_same (W':=w6) dk fun g hg=>T6.out.block g (own_lt dk g hg) (fun hh=>cj.out (hh ▸ hg));exact own_same h1 fun g hg=>set_other w6 p 3 g _ (fun hh=>cj.out (hh ▸ hg))
     ·exact own_same O6.out fun g hg=>set_other w6 p 3 g _ (fun hh=>by have:=B6.out g hg;omega)
     ·have:=B6.out g hg;omega
     ·have h1:=B6.out g hg;have h2:=own_lt dk g hh;omega
     ·have h1:=I4.out e he;have ht:=(ct.out e (cT.out e he) h0).1;have av:=ht.ne bW.out (by decide);have h2:=T6.out.row h1 av;exact(set_other w6 p 3 _ _ av).trans h2
     ·exact(U4.out.then T6.out (fun k _ h=>.inr (.inl h))).setCell (p:=⟨p,3,none⟩) (fun _=>.inr (.inl rfl)) _
end DG
end
section
open Go.RowKit Go.Lib Go.BigFrame
namespace DG
open OM TP TM DP DM TG TR FP
theorem rest_crash{S:Nat->Prop}{w w':World}{p:Nat}{D:Dk}{adr:Int->Nat}{x:Parts}{keep torn:Int}{v1 v2:Value}(h:DiskX S w p D adr [] x)
  (hw:CrashW w p adr (liveL D) (keptD D keep) D.inos torn x.vs x.vf x.ve x.vt D.inos.length D.clock v1 v2 w') :
  DM.Rest (fun k=>S k\/(w.heap.size<=k/\k<w'.heap.size)) w' (crashD D keep torn) adr [] { x with vn:=v1,vs:=v2,vc:=.slice none 0 0,cs:=[] }:=by
 have hr:=h.rest
 have az:∀ k t,IsT w k t->S k->t≠125->t≠173->w'.heap[k]?=w.heap[k]?:=fun k t ht hS h1 h2 =>
  hw.out.block k (h.lt k hS) (fun hh=>by
   rcases hh with hh|rfl|⟨f,hf,h0,rfl⟩
   ·exact ht.ne (own_type hr.safe k hh) h1 rfl
   ·exact h.np hS
   ·exact ht.ne (ino_type (hr.inos f hf h0)) h2 rfl)
 have rows:∀(t:TypeId) {n size:Nat} {v:Value} {xs:List Value},w.ownsRow 0 t size v n xs->(∀ g,v.ownBlock=some g->S g)->t≠125->t≠173->w'.ownsRow 0 t size v n xs:=fun t {n size v xs} ho bK h1 h2 =>
  own_same ho fun g hg=>az g t (own_type ho g hg) (bK g hg) h1 h2
 have hk:∀ e∈[]++liveL (crashD D keep torn),e∈keptD D keep:=fun e he=>by
  rcases List.mem_append.1 (show e∈keptD D keep++(keptD D keep++[].flatten) from he)with he|he
  ·exact he
  ·rcases List.mem_append.1 he with he|he
   ·exact he
   ·cases he
 have hl:∀ e∈[]++liveL (crashD D keep torn),e∈[]++liveL D:=fun e he=>kept_live keep e (hk e he)
 exact {
  names:=hw.own1
  nin:=fun g hg=>by
   rcases hw.blk1 g hg with h1|h1
   ·exact .inl (hr.sin g h1)
   ·exact .inr ⟨h1,own_lt hw.own1 g hg⟩
  safe:=hw.own2
  sin:=fun g hg=>.inr ⟨(hw.blk2 g hg).1,own_lt hw.own2 g hg⟩
  apart:=fun g hg hg2=>(hw.blk2 g hg2).2 hg
  ch:=World.ownsRow_nil _ _ _ _
  chin:=fun g hg=>by cases hg
  each:=fun e he=>by cases he
  crow:=fun e he=>by cases he
  later:=rfl
  ends:=rfl
  lens:=fun j c hc=>by cases hc
  inos:=fun e he h0=>by
   have:=hw.inos e (hk e he) h0;show InoAt w' _ _ (inoOf (D.inos.map (clean torn)) _);rw[ino_map];exact this
  iin:=fun e he h0=>.inl (hr.iin e (hl e he) h0)
  inj:=fun e he f hf=>hr.inj e (hl e he) f (hl f hf)
  fates:=rows _ hr.fates hr.fin (by decide) (by decide)
  fin:=fun g hg=>.inl (hr.fin g hg)
  edits:=rows _ hr.edits hr.ein (by decide) (by decide)
  ein:=fun g hg=>.inl (hr.ein g hg)
  elen:=hr.elen
  vals:=fun j e v he hv=>by
   obtain⟨h1,h2⟩:=hr.vals j e v he hv;refine⟨rows _ h1 (fun g hg=>?_) (by decide) (by decide),fun a ha=>.inl (h2 a ha)⟩
   cases ha:v.a with
   | none=>rw[ha]at hg;cases hg
   | some a =>
    rw[ha]at hg;injection hg with hg;rw[<- hg];exact h2 a ha
  trace:=rows _ hr.trace hr.tin (by decide) (by decide)
  tin:=fun g hg=>.inl (hr.tin g hg) }
theorem crash_any(S:Nat->Prop)(w:World)(p:Nat)(D:Dk)(adr:Int->Nat)(keep torn:Int)(h:DiskA S w p D adr []) :
  Calls Tryz.prog 119 #[.pointer (some ⟨p,0,none⟩),.int .i64 keep,.int .i64 torn] w (MutPost S p NoX (crashD D keep torn) adr [] w):=by
 obtain⟨x,h⟩:=h;refine(crash_walk S w p D adr x keep torn h).mono ?_;rintro r w' ⟨rfl,v1,v2,hw⟩;refine⟨rfl,⟨_,fun k hk=>?_,{ x with vn:=v1,vs:=v2,vc:=.slice none 0 0,cs:=[] },?_,rest_crash h hw,fun k hk=>?_,?_,fit_crash h.fit keep torn⟩,?_⟩
 ·rcases hk with hk|hk
  ·exact .inl hk
  ·exact .inr (.inr hk.1)
 ·rw[hw.row];unfold diskC;rw[show(crashD D keep torn).inos.length=D.inos.length by show(D.inos.map _).length=_;rw[length_map]];rfl
 ·rcases hk with hk|hk
  ·exact Nat.lt_of_lt_of_le (h.lt k hk) hw.out.size
  ·exact hk.2
 ·rintro (hk|hk)
  ·exact h.np hk
  ·have:=(Array.getElem?_eq_some_iff.1 h.row).1;omega
 ·exact hw.out.mono (fun k _ hk=>by
   rcases hk with hk|rfl|⟨f,hf,h0,rfl⟩
   ·exact .inl (h.rest.sin k hk)
   ·exact .inr rfl
   ·exact .inl (h.rest.iin f hf h0))
end DG
end
section
open Go.RowKit Go.Lib Go.BigFrame
namespace DG
open OM TP TM DP DM TG TR FP
theorem env_out{T:Nat->Prop}{w w':World}(h:NF.Env w)(ho:Out T w w')(hT:∀ k,T k->3+1<=k):NF.Env w':=by
 have c:∀ {a:Addr} {v:Value},a.block<3+1->w.cell? a=some v->w'.cell? a=some v:=fun {a v} hb hc =>
  (ho.cell (World.block_lt_of_cell? _ _ hc) (fun hh=>by have:=hT _ hh;omega)).trans hc
 have g1:Tryz.laysValid_ren.g 3<3+1:=by decide +kernel
 have g2:Tryz.laysValid_ren.g 4<3+1:=by decide +kernel
 have g3:(0:Nat)<3+1:=by decide +kernel
 refine⟨⟨fun k hk=>c (by exact g1) (h.tabs.1 k hk),fun i hi=>⟨c (by exact g2) (h.tabs.2 i hi).1,c (by exact g2) (h.tabs.2 i hi).2⟩⟩,?_⟩;obtain⟨m,hm⟩:=h.maxl;exact⟨m,c (by exact g3) hm⟩
theorem env_size{w:World}(h:NF.Env w):3+1<=w.heap.size:=by
 have g2:Tryz.laysValid_ren.g 4=3:=by decide +kernel
 have:=World.block_lt_of_cell? _ _ (h.tabs.2 0 (by decide)).1;have h2:Tryz.laysValid_ren.g 4<w.heap.size:=this;omega
def Hi(S:Nat->Prop)(p:Nat):Prop:=(∀ k,S k->3+1<=k)/\3+1<=p
theorem Hi.out{S:Nat->Prop}{p:Nat}(h:Hi S p):∀ k,(S k\/k=p)->3+1<=k:=fun k hk=>hk.elim (h.1 k) (fun e=>by have:=h.2;omega)
theorem Hi.more{S S':Nat->Prop}{p B:Nat}(h:Hi S p)(hs:∀ k,S' k->S k\/B<=k)(hB:3+1<=B):Hi S' p:=⟨fun k hk=>(hs k hk).elim (h.1 k) (fun e=>by omega),h.2⟩
theorem right_data{n:Nd}(h:rightB n=true):n.data.length<=65536:=by
 unfold rightB at h;split at h
 ·simp only[Bool.and_eq_true,decide_eq_true_eq]at h;exact h.1.1
 ·split at h
  ·simp only[Bool.and_eq_true,decide_eq_true_eq]at h;rw[h.1];exact Nat.zero_le _
  ·split at h
   ·simp only[Bool.and_eq_true,decide_eq_true_eq]at h;omega
   ·cases h
open NP in
theorem in_len(t:List Nd)(p:List UInt8)(v:List Nd):(inE (outL t p v) p).length+(t.filter fun n=>!withinL n.path p).length<=(outL t p v).length:=by
 have h1:((outL t p v).filter fun n=>withinL n.path p).length+((outL t p v).filter fun n=>!withinL n.path p).length<=(outL t p v).length:=by
  have:=filter_two (outL t p v) (fun _=>true) (fun n=>withinL n.path p);simpa using this
 have h2:(t.filter fun n=>!withinL n.path p).length<=((outL t p v).filter fun n=>!withinL n.path p).length:=by
  unfold outL;rw[filter_append,filter_append,length_append,length_append]
  have e1:((t.filter fun n=>!withinL n.path p&&decide (ordL n.path p<0)).filter fun n=>!withinL n.path p)=t.filter fun n=>!withinL n.path p&&decide (ordL n.path p<0):=List.filter_eq_self.2 (fun n hn=>by
   have:=(List.mem_filter.1 hn).2;simp only[Bool.and_eq_true]at this
   exact this.1)
  have e2:((t.filter fun n=>!withinL n.path p&&!decide (ordL n.path p<0)).filter fun n=>!withinL n.path p)=t.filter fun n=>!withinL n.path p&&!decide (ordL n.path p<0):=List.filter_eq_self.2 (fun n hn=>by
   have:=(List.mem_filter.1 hn).2;simp only[Bool.and_eq_true]at this
   exact this.1)
  rw[e1,e2]
  have h3:∀ l:List Nd,(l.filter fun n=>!withinL n.path p).length=(l.filter fun n=>!withinL n.path p&&decide (ordL n.path p<0)).length+(l.filter fun n=>!withinL n.path p&&!decide (ordL n.path p<0)).length:=by
   intro l
   induction l with
   | nil=>rfl
   | cons a l ih =>
    simp only[List.filter_cons];cases withinL a.path p<;>cases decide (ordL a.path p<0)<;>simp[ih]<;>omega
  have:=h3 t;omega
 unfold inE;omega
theorem with_out_len(ns:List Nd):∀(c:List Nd),(∀ e∈c,e.kind=0)->(withE ns c).length<=ns.length:=by
 intro c
 induction c generalizing ns with
 | nil=>intro _;exact Nat.le_refl _
 | cons e c ih =>
  intro h;refine Nat.le_trans (ih (putE ns e) (fun x hx=>h x (List.mem_cons_of_mem _ hx))) ?_;unfold putE;rw[if_pos (h e (List.mem_cons_self ..))];exact length_filter_le _ _
theorem with_len(ns:List Nd):∀(c:List Nd),(withE ns c).length<=ns.length+c.length:=by
 intro c
 induction c generalizing ns with
 | nil=>exact Nat.le_refl _
 | cons e c ih =>
  have h1:=ih (putE ns e);have h2:=put_len ns e;show(withE (putE ns e) c).length<=_;rw[length_cons];omega
theorem del_all:∀(c:List (List UInt8)) (ns:List Nd),withE ns (c.map fun p=>en p 0)=ns.filter fun e=>decide (e.path ∉ c)
 | [],ns=>by
  show ns=_;exact(List.filter_eq_self.2 (by simp)).symm
 | p::c,ns=>by
  show withE (putE ns (en p 0)) (c.map fun p=>en p 0)=_;rw[del_all c];show(delE ns p).filter _=_;unfold delE;rw[List.filter_filter];apply List.filter_congr;intro e _;simp only[List.mem_cons,not_or];by_cases h1:e.path=p<;>by_cases h2:e.path∈c<;>simp[h1,h2]
open NP in
theorem out_gone(ns:List Nd)(p:List UInt8):withE ns (outE ns p)=ns.filter fun e=>!withinL e.path p:=by
 have:outE ns p=((inE ns p).map (·.path)).map fun p=>en p 0:=by unfold outE;rw[List.map_map];rfl
 rw[this,del_all];apply List.filter_congr;intro e he;by_cases h:withinL e.path p=true
 ·have:e.path∈(inE ns p).map (·.path):=List.mem_map.2 ⟨e,List.mem_filter.2 ⟨he,h⟩,rfl⟩;simp[h,this]
 ·have:e.path ∉ (inE ns p).map (·.path):=fun hm=>by
   obtain⟨f,hf,aW⟩:=List.mem_map.1 hm;rw[<- aW]at h;exact h (List.mem_filter.1 hf).2
  simp[h,this]
theorem freshes_len(D:Dk)(ns:List Nd):(freshes D ns).length=ns.length:=by unfold freshes;simp
open NP in
theorem edit_lens{ns t v:List Nd}{p:List UInt8}{D:Dk}{I:List Ino}(h1000:ns.length<=1000)(ht:t=ns.map (nodeOf I))(hl:(outL t p v).length<=1000)(k:Nat) :
  (withE ns ((outE ns p++freshes D (inE (outL t p v) p)).take k)).length<=1000:=by
 by_cases hk:k<=(outE ns p).length
 ·rw[List.take_append_of_le_length hk];refine Nat.le_trans (with_out_len ns _ (fun e he=>?_)) h1000;obtain⟨f,_,rfl⟩:=List.mem_map.1 (List.mem_of_mem_take he);rfl
 ·rw[List.take_append,List.take_of_length_le (by omega),with_app,out_gone];have h1:=with_len (ns.filter fun e=>!withinL e.path p) ((freshes D (inE (outL t p v) p)).take (k-(outE ns p).length));have h2:=in_len t p v
  have h3:(t.filter fun n=>!withinL n.path p).length=(ns.filter fun e=>!withinL e.path p).length:=by
   rw[ht,List.filter_map,length_map];rfl
  have h4:((freshes D (inE (outL t p v) p)).take (k-(outE ns p).length)).length<=(inE (outL t p v) p).length:=by
   rw[length_take,freshes_len];omega
  omega
end DG
end
section
open Go.RowKit Go.Lib Go.BigFrame
namespace DG
open OM TP TM DP DM TG TR FP
def freshAll(D:Dk)(ns:List Nd):Dk:={ D with inos:=D.inos++ns.map (freshI D) }
theorem freshAll_nil(D:Dk):freshAll D []=D:=by unfold freshAll;simp
theorem freshAll_snoc(D:Dk)(ns:List Nd)(x:Nd):freshAll D (ns++[x])=freshD (freshAll D ns) x:=by
 unfold freshAll freshD;simp only;congr 1;rw[map_append,List.append_assoc];rfl
theorem freshAll_len(D:Dk)(ns:List Nd):(freshAll D ns).inos.length=D.inos.length+ns.length:=by unfold freshAll;simp
theorem freshes_nil(D:Dk):freshes D []=[]:=rfl
theorem freshes_snoc(D:Dk)(ns:List Nd)(x:Nd):freshes D (ns++[x])=freshes D ns++[freshE (freshAll D ns) x]:=by
 unfold freshes;rw[List.mapIdx_concat];congr 2;unfold freshE;rw[freshAll_len];congr 2;omega
theorem freshes_kind(D:Dk):∀(ns:List Nd),∀ e∈freshes D ns,1<=e.kind/\e.kind<=((freshAll D ns).inos.length:Int)/\∃ x∈ns,e.path=x.path/\∃ k:Nat,e=en e.path k:=fun ns e he=>by
 unfold freshes at he;obtain⟨i,hi,rfl⟩:=List.mem_mapIdx.1 he;rw[freshAll_len];refine⟨?_,?_,ns[i],List.getElem_mem _,rfl,_,rfl⟩
 ·show(1:Int)<=((D.inos.length+1+i:Nat):Int);omega
 ·show((D.inos.length+1+i:Nat):Int)<=_;omega
theorem in_succ_yes{t:List Nd}{p:List UInt8}{k:Nat}{x:Nd}(hx:t[k]?=some x)(h:NP.withinL x.path p=true):inE (t.take (k+1)) p=inE (t.take k) p++[x]:=by
 unfold inE;rw[take_add_one,hx,Option.toList_some,filter_append];simp[h]
theorem in_succ_no{t:List Nd}{p:List UInt8}{k:Nat}{x:Nd}(hx:t[k]?=some x)(h:NP.withinL x.path p=false):inE (t.take (k+1)) p=inE (t.take k) p:=by
 unfold inE;rw[take_add_one,hx,Option.toList_some,filter_append];simp[h]
structure EdAt(S:Nat->Prop)(P:Nat)(D:Dk)(o F:List Nd)(w:World)(u:Value)(S1:Nat->Prop)(ab:Int->Nat)(wr:World):Prop where
 own:wr.ownsRow 0 125 2 u (o++freshes D F).length (ensC ab (o++freshes D F))
 blk:∀ g,u.ownBlock=some g->¬ S1 g/\w.heap.size<=g
 sub:∀ k,S1 k->S k\/w.heap.size<=k
 disk:DiskA S1 wr P (freshAll D F) ab (freshes D F)
 out:Out (fun k=>k=P) w wr
def EdInv(S:Nat->Prop)(P:Nat)(D:Dk)(o t:List Nd)(p:List UInt8)(n:Nat)(tv:Value)(w:World)(s8 s32:Value)(wr:World):Prop :=
 ∃(k:Nat) (u:Value) (S1:Nat->Prop) (ab:Int->Nat),s32=.int .i64 k/\u=s8/\k<=n/\EdAt S P D o (inE (t.take k) p) w u S1 ab wr/\wr.ownsRow w.heap.size 45 4 tv n (nodesC t)
theorem ed_fresh{S S1:Nat->Prop}{P:Nat}{D:Dk}{o F:List Nd}{w wr w1 w2:World}{u:Value}{ab:Int->Nat}{x:Nd}{g:Nat}{m:Nat}(h:EdAt S P D o F w u S1 ab wr)(ho:∀ e∈o,e.kind=0)(hb:Below wr.heap.size wr w1)
  (hg:w1.heap.size<=g) (hd:DiskA (fun k=>S1 k\/k=g) w2 P (freshD (freshAll D F) x) (updA ab ((freshAll D F).inos.length+1) g) (freshes D F++[freshE (freshAll D F) x])) (hu:Out (fun k=>k=P) w1 w2) (hP:P<w.heap.size) (hm:m=(o++freshes D F).length) :
  w2.ownsRow 0 125 2 u m (ensC (updA ab ((freshAll D F).inos.length+1) g) (o++freshes D F))/\Out (fun k=>k=P) w w2/\(∀ k,(S1 k\/k=g)->S k\/w.heap.size<=k) /\
   (∀ g',u.ownBlock=some g'->¬(S1 g'\/g'=g)/\w.heap.size<=g'):=by
 have hs:=h.out.size;have cS:=hb.size;have al:∀ g',u.ownBlock=some g'->g'<wr.heap.size:=fun g' hg'=>(h.own.lt g' hg').2;refine⟨?_,(h.out.thenBelow hb).then hu (fun k _ hk=>hk),fun k hk=>?_,fun g' hg'=>⟨?_,(h.blk g' hg').2⟩⟩
 ·rw[ens_adr (adr:=ab) (fun e he=>updA_old _ _ _ ?_),hm]
  ·refine own_same (owns_below h.own hb) (fun g' hg'=>hu.block g' (by have:=al g' hg';omega) (fun e=>?_));have:=(h.blk g' hg').2;omega
  ·rcases List.mem_append.1 he with he|he
   ·rw[ho e he];omega
   ·have:=(freshes_kind D F e he).2.1;omega
 ·rcases hk with hk|rfl
  ·exact h.sub k hk
  ·exact .inr (by omega)
 ·rintro (h1|h1)
  ·exact(h.blk g' hg').1 h1
  ·have:=al g' hg';omega
theorem diskA_keep{S:Nat->Prop}{W W':World}{p:Nat}{D:Dk}{adr:Int->Nat}{pend:List Nd}(h:DiskA S W p D adr pend)(hs:W.heap.size<=W'.heap.size)(hk:∀ k,k<W.heap.size->(S k\/k=p)->W'.heap[k]?=W.heap[k]?):DiskA S W' p D adr pend:=by
 obtain⟨x,h⟩:=h;exact⟨x,h.keep hs (hk p (Array.getElem?_eq_some_iff.1 h.row).1 (.inr rfl)) (fun k hS=>hk k (h.lt k hS) (.inl hS))⟩
theorem diskA_lt{S:Nat->Prop}{W:World}{p:Nat}{D:Dk}{adr:Int->Nat}{pend:List Nd}(h:DiskA S W p D adr pend):∀ k,S k->k<W.heap.size:=by
 obtain⟨x,h⟩:=h;exact h.lt
theorem ed_grown{S S2:Nat->Prop}{P:Nat}{D:Dk}{o F:List Nd}{w w5 w6:World}{u v':Value}{ah:Int->Nat}{y:Nd}{m:Nat}{o1:Obj}(ba:w5.ownsRow 0 125 2 u m (ensC ah (o++freshes D F)))(hm:m=(o++freshes D F).length)(ag:Out (fun k=>k=P) w w5)
  (ac:∀ k,S2 k->S k\/w.heap.size<=k) (hblk:∀ g',u.ownBlock=some g'->¬ S2 g'/\w.heap.size<=g') (hd:DiskA S2 w5 P (freshD (freshAll D F) y) ah (freshes D F++[freshE (freshAll D F) y])) (hP:P<w.heap.size)
  (h6:w6.ownsRow 0 125 2 v' (m+1) (ensC ah (o++freshes D F)++enCells ah (freshE (freshAll D F) y))) (hg:(w5.alloc o1).grownBy w6 u.ownBlock) (hb:v'.ownBlock=u.ownBlock\/v'.ownBlock=some (w5.alloc o1).heap.size) :
  EdAt S P D o (F++[y]) w v' S2 ah w6:=by
 have hs:=ag.size;have al:=diskA_lt hd;have b5:(w5.alloc o1).heap.size=w5.heap.size+1:=by simp
 have eJ:=hg.size;have same:∀ k,k<w5.heap.size->u.ownBlock≠some k->w6.heap[k]?=w5.heap[k]?:=fun k hk hn=>(hg.block k (by omega) (fun e=>hn e.symm)).trans (Below.heap_alloc w5 o1 k hk);refine⟨?_,fun g hv=>?_,ac,?_,?_⟩
 ·rw[freshes_snoc,← List.append_assoc,ens_snoc,length_append,← hm];exact h6
 ·rcases hb with h|h
  ·exact hblk g (h ▸ hv)
  ·rw[h]at hv;injection hv with hv;exact⟨fun h2=>by have:=al g h2;omega,by omega⟩
 ·rw[freshAll_snoc,freshes_snoc];refine diskA_keep hd (by omega) (fun k hk hS=>same k hk (fun e=>?_));rcases hS with hS|rfl
  ·exact(hblk k e).1 hS
  ·have:=(hblk _ e).2;omega
 ·exact ag.then (T:=fun k=>u.ownBlock=some k) ⟨hg.os,hg.tape,hg.output,by omega,fun k hk hn=>same k hk hn⟩ (fun j hj hT=>by have:=(hblk j hT).2;omega)
def DoesN(S:Nat->Prop)(p:Nat)(w:World)(D:Dk)(w':World):Prop :=
 Out (fun k=>Nm S w k\/k=p) w w'/\∃ S',(∀ k,S' k->S k\/w.heap.size<=k)/\Disk S' w' p D
theorem edit_any(S:Nat->Prop)(w:World)(P:Nat)(D:Dk)(adr:Int->Nat)(pth:List UInt8)(vo:Option Addr)(vc:Nat)(v:List Nd)(h:DiskA S w P D adr [])(he:NF.Env w)(hH:Hi S P)(hv:TW.Wide w vo vc v)(hp:pth.length<=maxLen)
  (hl1:D.inos.length<=2305843009213693952) (hl2:D.later.length<=549755813888) :
  Calls Tryz.prog 117 #[.pointer (some ⟨P,0,none⟩),txt pth,.slice vo v.length vc] w fun r w'=>r=.returned (.tuple #[])/\DoesN S P w (editD D pth v) w':=by
 obtain⟨i0,cO,db,bj,bU⟩:=info_parts infoE;obtain⟨x,h⟩:=h;have hr:=h.row;unfold diskC at hr;have am:=(Array.getElem?_eq_some_iff.1 hr).1;obtain⟨ao,cap,aj,aa,aA,aM,bV⟩:=layE_own h.rest.names;have CT:=hid (dtree_any adr ao cap D.names D.inos w aa (h.rest.inos.sub (fun e he=>by unfold liveL;exact mem_append_right _ (mem_append_left _ he))) h.fit.names);obtain⟨n0,bk⟩:∃ n,D.names.length=n:=⟨_,rfl⟩;obtain⟨S0,hS,e8⟩:=txt_of pth;have HX:=hid h;have HE:=hid he;have f5:=hid e8;have f8:Hid (3+1<=P):=hid hH.2;have hT:treeD D=D.names.map (nodeOf D.inos):=rfl
 have bE:Hid (∀(W:World) (a1:Option Addr) (c1:Nat),Below w.heap.size w W->TW.Wide W a1 c1 (treeD D)->Calls Tryz.prog 164 #[.slice a1 n0 c1,.string S0,.slice vo v.length vc] W (PutPost (putL (treeD D) pth v) W)):=hid (fun W a1 c1 hW hw=>by
  have:=TW.put_wide a1 c1 (treeD D) pth vo vc v W (HE.out.below hW) hw (hv.below hW) hp;rw[hS,show(treeD D).length=n0 by rw[hT,length_map,bk]]at this
  exact this)
 have eS:Hid (∀ W,Below w.heap.size w W->Calls Tryz.prog 110 #[.slice ao n0 cap,.string S0] W (EnPost adr (outE D.names pth) W)):=hid (fun W hW=>by
  have:=without_any adr ao cap D.names pth W (HE.out.below hW) (aa.below hW) h.fit.names aA hp;rw[bk,hS]at this
  exact this)
 have bH:Hid (TW.LongG (treeD D)):=hid (fun n hn=>by
  obtain⟨e,fb,rfl⟩:=List.mem_map.1 hn
  exact row_small h.fit.names e fb)
 have du:Hid ((treeD D).length=n0):=hid (by rw[hT,length_map,bk]);have fM:n0<=1000:=by have:=h.fit.names.len;omega
 have HR:=hid hr;obtain⟨c0,-,-,-,-,-,-,-,-,-⟩:=row9 hr;rw[aj,bk]at c0;rw[bk]at CT;rw[hS];obtain⟨m,hm⟩:∃ m,v.length=m:=⟨_,rfl⟩;rw[hm]at bE ⊢;have fe:Hid (x.vn=.slice ao n0 cap):=hid (by rw[aj,bk]);clear h hr aj aa aM bV hS e8 hT he hv hp aA bk hm hH;go_enter Tryz.func117,Tryz.ntmps117;repeat (first|go_skip|go_guarded|go_step|go_upon)
 refine CT.out.mono ?_;rintro r w1 ⟨u1,rfl,o1,b1⟩;simp only[]
 obtain⟨a1,c1,bh,bQ,fy⟩:∃ a1 c1,u1=.slice a1 n0 c1/\TW.Wide w1 a1 c1 (treeD D)/\True:=by
  rcases o1.2 with ⟨e1,e2⟩|⟨g,cp,be,e1,e2,e3,e4,e5,e6,e7⟩
  ·have bT:treeD D=[]:=List.eq_nil_of_length_eq_zero (by exact e2);refine⟨none,0,by rw[e1,← du.out,bT];rfl,?_,trivial⟩;rw[bT];exact TW.Wide.nil w1
  ·obtain⟨fi,c',ay,bi⟩:=lay_own o1;refine⟨some ⟨g,0,none⟩,cp,by rw[e1,← du.out];rfl,⟨?_,(fun e=>by cases e),by exact e4,bH.out,by rw[du.out];unfold maxLen;omega⟩,trivial⟩;rw[e1]at ay;injection ay with ay _ _;rw[ay];exact bi
 subst bh;have CP:=hid (bE.out w1 a1 c1 b1 bQ);have B1:=hid b1;clear o1 b1 bQ fy;repeat (first|go_skip|go_guarded|go_step|go_upon)
 refine CP.out.mono ?_;rintro r w2 ⟨u2,rfl,o2,b2⟩;simp only[];have B2:=hid (Below.trans B1.out (b2.mono B1.out.size));have cX:Hid (editD D pth v=if(putL (treeD D) pth v).2=0 then editC D pth (putL (treeD D) pth v).1 else D):=hid rfl;have b4:=put_cases (treeD D) pth v;obtain⟨t,ht⟩:∃ t,(putL (treeD D) pth v).1=t:=⟨_,rfl⟩;obtain⟨er,bz⟩:∃ e:Nat,(putL (treeD D) pth v).2=e:=⟨_,rfl⟩;rw[ht]at o2;rw[ht,bz]at cX;rw[bz];obtain⟨a2,c2,ck,bi⟩:=lay_own o2;obtain⟨n,hn⟩:∃ n,t.length=n:=⟨_,rfl⟩;rw[hn]at ck;subst ck;have O2:=hid o2;have HN:=hid hn;rcases Nat.eq_zero_or_pos er with hz|hz
 ·subst hz;rw[show((0:Nat):Int)=0 from rfl]
  have cd:PutOk (treeD D) pth v/\t=outL (treeD D) pth v:=by
   rcases b4 with ⟨h1,h2⟩|⟨e,h2⟩
   ·exact⟨h1,by rw[<- ht,h2]⟩
   ·rw[h2]at bz;cases bz
  have dF:=hid cd;have cJ:Hid (editD D pth v=editC D pth t):=hid (by rw[cX.out,if_pos rfl]);have cC:=out_tree cd.1;rw[<- cd.2]at cC;have cV:=hid cC;have cH:n<=1000:=by have:=cC.len;omega
  have R2:Hid (w2.heap[P]?=some (.cells #[x.vn,x.vs,x.vc,.bool (!D.off),.int .i64 (D.inos.length:Nat),.int .i64 (D.clock:Nat),x.vf,x.ve,x.vt] 122 (0,0))):=hid ((B2.out.block P am).trans HR.out);obtain⟨c0,-,-,-,-,-,-,-,-,-⟩:=row9 R2.out;rw[fe.out]at c0;clear b4 ht bz o2 bi hn b2 cd cC;repeat (first|go_skip|go_guarded|go_step|go_upon)
  refine(eS.out w2 B2.out).mono ?_;rintro r w3 ⟨u3,rfl,o3,b3⟩;simp only[];have B3:=hid (Below.trans B2.out (b3.mono B2.out.size));have O3:=hid o3;have fG:=hid (owns_below O2.out b3);obtain⟨a3,c3,eh,cU⟩:=owns_view o3;obtain⟨q3,ep⟩:∃ k,(outE D.names pth).length=k:=⟨_,rfl⟩;rw[ep]at eh;subst eh
  have eX:Hid (EdInv S P D (outE D.names pth) t pth n (.slice a2 n c2) w (.slice a3 q3 c3) (.int .i64 0) w3):=hid ⟨0,.slice a3 q3 c3,S,adr,rfl,rfl,Nat.zero_le _,by
   rw[show inE (t.take 0) pth=[] by simp[inE]];refine⟨?_,fun g hg=>?_,fun k hk=>.inl hk,?_,turn_below B3.out⟩
   ·rw[freshes_nil,List.append_nil];exact owns_base O3.out _ (Nat.zero_le _)
   ·have h1:=(O3.out.lt g hg).1;have h2:=B2.out.size;exact⟨fun h3=>by have:=HX.out.lt g h3;omega,by omega⟩
   ·rw[freshAll_nil,freshes_nil]
    exact⟨x,HX.out.below B3.out⟩,by
   have:=owns_base fG.out w.heap.size B1.out.size;rw[HN.out]at this
   exact this⟩
  have dj:Hid (∀ e∈outE D.names pth,e.kind=0/\NP.pathL e.path=true):=hid (fun e he=>by
   obtain⟨f,hf,rfl⟩:=List.mem_map.1 he
   exact⟨rfl,HX.out.fit.names.path f (List.mem_filter.1 hf).1⟩)
  have ex:Hid ((outE D.names pth).length<=1000):=hid (by
   unfold outE inE;rw[length_map]
   exact Nat.le_trans (length_filter_le _ _) HX.out.fit.names.len)
  clear o3 b3 cU ep;repeat (first|go_skip|go_guarded|go_step|go_upon)
  go_loopw [8,32] (fun s8 s32 wr=>EdInv S P D (outE D.names pth) t pth n (.slice a2 n c2) w s8 s32 wr) (fun _ s32 _=>n-(RowKit.intOf s32).toNat)
  case atStart=>exact eX.out
  case round =>
   obtain⟨k,u,S1,ab,rfl,rfl,hk,aD,c9⟩:=hrel;have ar:=hid aD;have bG:=hid c9;have ej:=aD.out.size;by_cases al:k<n
   ·have bN:(k:Int)<n:=by omega
    obtain⟨y,hy⟩:∃ y,t[k]?=some y:=⟨t[k]'(by rw[HN.out];exact al),getElem?_eq_getElem _⟩;have ai:=mem_of_getElem? hy
    have bb:LayN wr a2 t:=by
     have h1:=c9;rw[<- HN.out]at h1;obtain⟨fi,c',e1,e2⟩:=lay_own h1;injection e1 with e1 _ _;rw[e1];exact e2
    obtain⟨g,o,rfl,hg,hc⟩:=bb (by rw[HN.out];omega);obtain⟨d0,d1,d2,d3⟩:=hc k y hy;obtain⟨Y,hY,dQ⟩:=txt_of y.path;obtain⟨Z,hZ,_⟩:=txt_of y.data;have dH:=right_data (cV.out.right y ai);have ef:=cV.out.path y ai;have cF:=fun W=>fresh_any S1 W P (freshAll D (inE (t.take k) pth)) ab (freshes D (inE (t.take k) pth)) y;unfold ndVal at cF;rw[hY,hZ]at cF;rw[hY]at d0;rw[hZ]at d2;obtain⟨ky,dr⟩:∃ z,y.kind=z:=⟨_,rfl⟩;obtain⟨my,dn⟩:∃ z,y.mode=z:=⟨_,rfl⟩;rw[dr,dn]at cF;rw[dr]at d1;rw[dn]at d3;have BX:Hid (Below wr.heap.size wr (wr.alloc (.cells #[.string Y,.int .i64 ky,.string Z,.int .i64 my] 45))):=hid ((Below.refl _ _).alloc (Nat.le_refl _) _);have RX:Hid ((wr.alloc (.cells #[.string Y,.int .i64 ky,.string Z,.int .i64 my] 45)).heap[wr.heap.size]?=some (.cells #[.string Y,.int .i64 ky,.string Z,.int .i64 my] 45 (0,0))):=hid (heap_alloc_new wr _);obtain⟨bw,bL⟩:∃ b,NP.withinL y.path pth=b:=⟨_,rfl⟩
    have CW:Hid (Calls Tryz.prog 109 #[.string Y,.string S0] (wr.alloc (.cells #[.string Y,.int .i64 ky,.string Z,.int .i64 my] 45)) fun e w'=>e=.returned (.bool bw)/\Below (wr.alloc (.cells #[.string Y,.int .i64 ky,.string Z,.int .i64 my] 45)).heap.size (wr.alloc (.cells #[.string Y,.int .i64 ky,.string Z,.int .i64 my] 45)) w'):=hid (by
     rw[<- bL]
     exact within_txt Y S0 y.path pth _ ((env_out HE.out aD.out (fun k hk=>by have:=f8.out;omega)).below BX.out) dQ f5.out (small_of ef))
    have dP:=hid cF;have HY:=hid hy;have eF:=hid dH;have dD:=hid hY;clear hc ai bb hY dQ hZ dH ef cF dr dn hy aD c9 al
    cases bw with
    | false =>
     have HF:Hid (inE (t.take (k+1)) pth=inE (t.take k) pth):=hid (in_succ_no HY.out bL);clear bL;repeat (first|(go_at_call 109;refine CW.out.mono ?_;rintro r w4 ⟨rfl,b9⟩;simp only[];have B4:=hid (Below.trans BX.out (b9.mono BX.out.size));clear b9)|go_skip|go_guarded|go_step|go_upon)
     refine⟨⟨k+1,u,S1,ab,by go_num,rfl,by omega,?_,owns_below bG.out B4.out⟩,by simp[RowKit.intOf];omega⟩;rw[HF.out];exact⟨own_same ar.out.own fun g hg=>B4.out.block g (ar.out.own.lt g hg).2,ar.out.blk,ar.out.sub,ar.out.disk.below B4.out,ar.out.out.thenBelow B4.out⟩
    | true =>
     have HF:Hid (inE (t.take (k+1)) pth=inE (t.take k) pth++[y]):=hid (in_succ_yes HY.out bL)
     have eR:(inE (t.take k) pth).length<=1000:=by
      have h1:(inE (t.take k) pth).length<=(t.take k).length:=length_filter_le _ _;rw[length_take]at h1;omega
     obtain⟨F,hF⟩:∃ F,inE (t.take k) pth=F:=⟨_,rfl⟩;rw[hF]at ar dP HF eR;obtain⟨au,cu,hu,b0⟩:=owns_view ar.out.own;obtain⟨mu,br⟩:∃ mu,(outE D.names pth++freshes D F).length=mu:=⟨_,rfl⟩;have eG:mu<=2000:=by have:=ex.out;rw[<- br,length_append,freshes_len];omega
     rw[br]at hu;subst hu;have dI:=hid br;clear bL b0 br hF;repeat (first|(go_at_call 109;refine CW.out.mono ?_;rintro r w4 ⟨rfl,b9⟩;simp only[];have B4:=hid (Below.trans BX.out (b9.mono BX.out.size));have r4:=(b9.block wr.heap.size (by simp)).trans RX.out;obtain⟨q0,q1,q2,q3,-⟩:=row4 r4;clear b9 r4)|go_skip|go_guarded|go_step|go_upon)
     refine(dP.out w4 (ar.out.disk.below B4.out) (fun e he=>⟨(freshes_kind D F e he).1,(freshes_kind D F e he).2.1⟩) eF.out (by rw[freshAll_len];omega)).mono ?_;rintro r w5 ⟨gg,cy,rfl,cr,dg⟩;simp only[];obtain⟨ah,bp⟩:∃ a,updA ab ((freshAll D F).inos.length+1) gg=a:=⟨_,rfl⟩;obtain⟨f1,f2,f3,f4⟩:=ed_fresh (m:=mu) ar.out (fun e he=>(dj.out e he).1) B4.out cy cr dg am dI.out.symm
     have ez:enV (updA ab ((freshAll D F).inos.length+1) gg) (freshE (freshAll D F) y)=.agg #[.string Y,.pointer (some ⟨gg,0,none⟩)]:=by
      unfold enV ptrV;rw[show(freshE (freshAll D F) y).kind=(((freshAll D F).inos.length+1:Nat):Int) from rfl,if_neg (by omega),updA_new,show(freshE (freshAll D F) y).path=y.path from rfl,dD.out]
     have eB:ptrV ah (freshE (freshAll D F) y).kind=.pointer (some ⟨gg,0,none⟩):=by
      rw[<- bp];unfold ptrV;rw[show(freshE (freshAll D F) y).kind=(((freshAll D F).inos.length+1:Nat):Int) from rfl,if_neg (by omega),updA_new]
     rw[ez];rw[bp]at f1 cr
     have bu:Hid (∃ v' w',(Builtin.append_ #[118,118] 118 #[.slice au mu cu,.slice (some ⟨w5.heap.size,0,none⟩) 1 1]).run Tryz.prog (w5.alloc (.cells #[.string Y,.pointer (some ⟨gg,0,none⟩)] 125))=.ok v' w' /\
       w'.ownsRow 0 125 2 v' (mu+1) (ensC ah (outE D.names pth++freshes D F)++enCells ah (freshE (freshAll D F) y))/\(w5.alloc (.cells #[.string Y,.pointer (some ⟨gg,0,none⟩)] 125)).grownBy w' (Value.slice au mu cu).ownBlock/\(v'.ownBlock=(Value.slice au mu cu).ownBlock\/v'.ownBlock=some (w5.alloc (.cells #[.string Y,.pointer (some ⟨gg,0,none⟩)] 125)).heap.size)):=hid (by
      obtain⟨v',w',g1,g2,g3,_,g4⟩:=run_append_own_at (P:=Tryz.prog) (w5.alloc (.cells #[.string Y,.pointer (some ⟨gg,0,none⟩)] 125)) 0 118 118 125 i0 _ 2 24 Tryz.underlying118 cO db bj bU rfl (by decide) _ mu _ (f1.alloc _) ⟨w5.heap.size,0,none⟩ 1 1 (enCells ah (freshE (freshAll D F) y)) rfl (two_new w5 _ rfl ah (freshE (freshAll D F) y) _ _ dD.out eB 125) (en_one _ _) (by unfold maxLen;omega) (by omega) (Nat.zero_le _)
      exact⟨v',w',g1,g2,g3,g4⟩)
     have eA:Hid (w5.ownsRow w.heap.size 45 4 (.slice (some ⟨g,o,none⟩) n c2) n (nodesC t)):=hid (own_same (owns_below bG.out B4.out) fun g' hg'=>dg.block g' (by have:=(bG.out.lt g' hg').2;have:=B4.out.size;omega) (fun e=>by have:=(bG.out.lt g' hg').1;omega));have F1:=hid f1;have F2:=hid f2;have F3:=hid f3;have F4:=hid f4;have D5:=hid cr;clear cy cr dg bp f1 f2 f3 f4 ez eB
     repeat (first
      | (at_builtin;obtain⟨v6,w6,aN,bg,aH,bc⟩:=bu.out;refine wpList_append_eq rfl _ _ _ _ rfl _ _ rfl rfl aN ?_;have fg:=hid bg;have dC:=hid aH;have f7:=hid bc;clear aN bg aH bc)
      | go_skip|go_guarded|go_step|go_upon)
     refine⟨⟨k+1,v6,(fun j=>S1 j\/j=gg),ah,by go_num,rfl,by omega,?_,?_⟩,by simp[RowKit.intOf];omega⟩
     ·rw[HF.out];exact ed_grown F1.out dI.out.symm F2.out F3.out F4.out D5.out am fg.out dC.out f7.out
     ·have h1:=eA.out.alloc (.cells #[.string Y,.pointer (some ⟨gg,0,none⟩)] 125);exact own_same h1 fun g' hg'=>dC.out.block g' (h1.lt g' hg').2 (fun e=>(own_type eA.out g' hg').ne (own_type F1.out g' e.symm) (by decide) rfl)
   ·have bN:¬(k:Int)<n:=by omega
    have cb:k=n:=by omega
    rw[cb,← HN.out,List.take_length]at aD;obtain⟨F,hF⟩:∃ F,inE t pth=F:=⟨_,rfl⟩;rw[hF]at aD
    have eb:F.length<=1000:=by
     rw[<- hF];have h1:(inE t pth).length<=t.length:=length_filter_le _ _;have:=HN.out;omega
    obtain⟨au,cu,hu,b0,_,_,bR⟩:=layE_own (adr:=ab) (ns:=outE D.names pth++freshes D F) (v:=u) aD.own
    have dN:ChgIn S1 wr (freshAll D F) ab (freshes D F) au (outE D.names pth++freshes D F):=by
     refine⟨b0,⟨fun e he=>?_,fun e he=>?_⟩,fun a ha=>?_,fun j=>?_,?_,fun e he h0=>?_⟩
     ·rcases List.mem_append.1 he with he|he
      ·exact(dj.out e he).2
      ·obtain⟨_,_,z,bj,bU,_⟩:=freshes_kind D F e he;rw[bU];refine cV.out.path z ?_;rw[<- hF]at bj;exact(List.mem_filter.1 bj).1
     ·rcases List.mem_append.1 he with he|he
      ·obtain⟨f,_,rfl⟩:=List.mem_map.1 he;exact⟨0,rfl,Nat.zero_le _⟩
      ·obtain⟨_,h2,_,_,_,kk,h3⟩:=freshes_kind D F e he;refine⟨kk,h3,?_⟩;rw[h3]at h2;have:(kk:Int)<=_:=h2;omega
     ·have h1:=bR a ha;exact⟨own_type aD.own _ h1,(aD.blk _ h1).1⟩
     ·have h1:=HX.out.fit.names.len;have h2:=(dF.out.1).len;rw[<- hF,dF.out.2];exact edit_lens h1 rfl h2 j
     ·have:=ex.out;rw[length_append,freshes_len];omega
     ·rcases List.mem_append.1 he with he|he
      ·exact absurd (dj.out e he).1 h0
      ·exact⟨e,mem_append_left _ he,rfl⟩
    have CC:=hid (change_any S1 wr P (freshAll D F) ab (freshes D F) au cu (outE D.names pth++freshes D F) aD.disk dN (by show D.later.length<=_;omega));have fp:Hid (editD D pth v=changeD (freshAll D F) (outE D.names pth++freshes D F)):=hid (by rw[cJ.out];unfold editC;rw[hF];rfl);obtain⟨mu,br⟩:∃ mu,(outE D.names pth++freshes D F).length=mu:=⟨_,rfl⟩;rw[br]at hu CC;subst hu;have eZ:Hid (∀ a,au=some a->w.heap.size<=a.block):=hid (fun a ha=>(aD.blk _ (bR a ha)).2);clear b0 bR dN br hF aD c9 cb al bG;repeat (first|go_skip|go_guarded|go_step|go_upon)
    refine CC.out.mono ?_;rintro r w6 ⟨rfl,⟨S2,de,fo⟩,ck⟩;simp only[];repeat (first|go_skip|go_guarded|go_step|go_upon)
    go_end0
    rw[fp.out];have bj:=ar.out.out.size;refine⟨rfl,(ar.out.out.mono (fun k _ h=>.inr h)).then ck (fun j hj hT=>?_),S2,fun k hk=>?_,ab,diskA_pend fo (fun e he=>by cases he)⟩
    ·rcases hT with ⟨hT,ff⟩|hT
     ·rcases ar.out.sub j hT with h1|h1
      ·by_cases hjp:j=P
       ·exact .inr hjp
       ·have hb:=(ar.out.out.block j hj hjp).symm;exact .inl ⟨h1,ff.imp (·.same hb) (·.same hb)⟩
      ·omega
     ·exact .inr hT
    ·rcases de k hk with h1|⟨a,h1,h2⟩|h1
     ·exact ar.out.sub k h1
     ·exact .inr (h2 ▸ eZ.out a h1)
     ·exact .inr (by omega)
 ·have fO:((er:Int) != 0)=true:=by simp;omega
  have cJ:Hid (editD D pth v=D):=hid (by rw[cX.out,if_neg (by omega)]);clear b4 ht bz o2 bi hn b2 hz;repeat (first|go_skip|go_guarded|go_step|go_upon)
  (try simp only[Exit.inBlock,Exit.then])
  refine bodyPost_ret (results_none rfl _ _ _) rfl ?_;rw[cJ.out];exact⟨rfl,(Out.of_below B2.out).mono (fun k hk h=>absurd hk (by omega)),S,fun k hk=>.inl hk,adr,x,HX.out.below B2.out⟩
end DG
end
section
open Go.RowKit Go.Lib Go.BigFrame
namespace DG
open OM TP TM DP DM TG TR FP
theorem edit_same(D:Dk)(p:List UInt8)(v:List Nd):(editD D p v).clock=D.clock/\(editD D p v).trace=D.trace/\(editD D p v).edits=D.edits/\(editD D p v).fates=D.fates/\(editD D p v).off=D.off:=by
 unfold editD;split
 ·exact⟨rfl,rfl,rfl,rfl,rfl⟩
 ·exact⟨rfl,rfl,rfl,rfl,rfl⟩
theorem edit_grow(D:Dk)(p:List UInt8)(v:List Nd):(editD D p v).later.length<=D.later.length+1/\(editD D p v).inos.length<=D.inos.length+1000:=by
 unfold editD;split
 ·rename_i h0;rcases put_cases (treeD D) p v with ⟨h1,h2⟩|⟨e,h2⟩
  ·rw[h2];have hl:=(out_tree h1).len;have h3:(inE (outL (treeD D) p v) p).length<=(outL (treeD D) p v).length:=length_filter_le _ _;constructor
   ·show(D.later++[_]).length<=_;simp
   ·show(D.inos++_).length<=_;rw[length_append,length_map];show D.inos.length+(inE (outL (treeD D) p v) p).length<=_;omega
  ·rw[h2]at h0;simp at h0
 ·exact⟨by omega,by omega⟩
structure Num(m:Nat)(D:Dk):Prop where
 clock:D.clock<=m
 trace:D.trace.length<=m
 later:D.later.length<=m*2097152
 inos:D.inos.length<=1000+m*2147483648
 edits:D.edits.length<=1048576
 path:∀ e∈D.edits,e.path.length<=maxLen
 long:∀ e∈D.edits,TW.LongG e.value/\e.value.length<=maxLen
structure NumS(m:Nat)(D:Dk):Prop where
 clock:D.clock<=m+1
 trace:D.trace.length<=m+1
 later:D.later.length<=m*2097152+1048576
 inos:D.inos.length<=1000+m*2147483648+1048576000
 edits:D.edits.length<=1048576
 path:∀ e∈D.edits,e.path.length<=maxLen
 long:∀ e∈D.edits,TW.LongG e.value/\e.value.length<=maxLen
theorem NumS.num{m:Nat}{D:Dk}(h:NumS m D):Num (m+1) D:=⟨h.clock,h.trace,by have:=h.later;omega,by have:=h.inos;omega,h.edits,h.path,h.long⟩
theorem NumS.change{m:Nat}{D:Dk}(h:NumS m D)(c:List Nd):Num (m+1) (changeD D c):=⟨h.clock,h.trace,by
 show(D.later++[_]).length<=_;have:=h.later;rw[length_append,length_singleton]
 omega,by show D.inos.length<=_;have:=h.inos;omega,h.edits,h.path,h.long⟩
theorem NumS.lay{m:Nat}{D:Dk}(h:NumS m D)(n:Nd)(c:List Nd):Num (m+1) (changeD (freshD D n) c):=⟨h.clock,h.trace,by
 show(D.later++[_]).length<=_;have:=h.later;rw[length_append,length_singleton]
 omega,by
 show(D.inos++[_]).length<=_;have:=h.inos;rw[length_append,length_singleton]
 omega,h.edits,h.path,h.long⟩
theorem Num.setI{m:Nat}{D:Dk}(h:Num m D)(p:List UInt8)(f:Ino->Ino):Num m (DP.setI D p f):=by
 unfold DP.setI;split
 ·exact⟨h.clock,h.trace,h.later,by show(D.inos.set _ _).length<=_;rw[List.length_set];exact h.inos,h.edits,h.path,h.long⟩
 ·exact h
theorem Num.settle{m:Nat}{D:Dk}(h:Num m D):Num m (settleD D):=⟨h.clock,h.trace,by rw[show(settleD D).later=[] from rfl,length_nil];omega,by show D.inos.length<=_;have:=h.inos;omega,h.edits,h.path,h.long⟩
theorem Num.mono{m n:Nat}{D:Dk}(h:Num m D)(hm:m<=n):Num n D:=⟨Nat.le_trans h.clock hm,Nat.le_trans h.trace hm,Nat.le_trans h.later (Nat.mul_le_mul_right _ hm),Nat.le_trans h.inos (Nat.add_le_add_left (Nat.mul_le_mul_right _ hm) _),h.edits,h.path,h.long⟩
theorem edits_zero(D:Dk)(n:Nat)(es:List Edit):editsD D n (es.take 0)=D:=rfl
theorem edits_succ(D:Dk)(n:Nat){es:List Edit}{k:Nat}{e:Edit}(he:es[k]?=some e):editsD D n (es.take (k+1))=if e.at_=(n:Int)then editD (editsD D n (es.take k)) e.path e.value else editsD D n (es.take k):=by
 unfold editsD;rw[take_add_one,he,Option.toList_some,List.foldl_append];rfl
theorem edits_same(D:Dk)(n:Nat):∀(es:List Edit),(editsD D n es).clock=D.clock/\(editsD D n es).trace=D.trace/\(editsD D n es).edits=D.edits/\(editsD D n es).fates=D.fates/\(editsD D n es).off=D.off /\
  (editsD D n es).later.length<=D.later.length+es.length/\(editsD D n es).inos.length<=D.inos.length+1000*es.length:=fun es=>by
 induction es generalizing D with
 | nil=>exact⟨rfl,rfl,rfl,rfl,rfl,by show D.later.length<=_;omega,by show D.inos.length<=_;omega⟩
 | cons e es ih =>
  have hc:editsD D n (e::es)=editsD (if e.at_=(n:Int)then editD D e.path e.value else D) n es:=rfl;rw[hc];obtain⟨h1,h2,h3,h4,h5,h6,h7⟩:=ih (if e.at_=(n:Int)then editD D e.path e.value else D);rw[length_cons];split at h1
  ·rename_i hx;rw[if_pos hx]at h2 h3 h4 h5 h6 h7 ⊢;obtain⟨g1,g2,g3,g4,g5⟩:=edit_same D e.path e.value;obtain⟨k1,k2⟩:=edit_grow D e.path e.value;exact⟨h1.trans g1,h2.trans g2,h3.trans g3,h4.trans g4,h5.trans g5,by omega,by omega⟩
  ·rename_i hx;rw[if_neg hx]at h2 h3 h4 h5 h6 h7 ⊢;exact⟨h1,h2,h3,h4,h5,by omega,by omega⟩
theorem begun_num{m:Nat}{D:Dk}(h:Num m D)(c:Did):NumS m (begunD D c):=by
 obtain⟨h1,h2,h3,h4,h5,h6,h7⟩:=edits_same { D with clock:=D.clock+1 } D.trace.length D.edits;have a1:=h.clock;have a2:=h.trace;have a3:=h.later;have a4:=h.inos;have a5:=h.edits;refine⟨?_,?_,?_,?_,?_,?_,?_⟩
 ·show(editsD _ _ _).clock<=_;rw[h1];show D.clock+1<=_;omega
 ·show((editsD _ _ _).trace++[c]).length<=_;rw[h2,length_append,length_singleton];show D.trace.length+1<=_;omega
 ·show(editsD _ _ _).later.length<=_;have:(editsD { D with clock:=D.clock+1 } D.trace.length D.edits).later.length<=D.later.length+D.edits.length:=h6;omega
 ·show(editsD _ _ _).inos.length<=_;have:(editsD { D with clock:=D.clock+1 } D.trace.length D.edits).inos.length<=D.inos.length+1000*D.edits.length:=h7;omega
 ·show(editsD _ _ _).edits.length<=_;rw[h3];exact a5
 ·show ∀ e∈(editsD _ _ _).edits,_;rw[h3];exact h.path
 ·show ∀ e∈(editsD _ _ _).edits,_;rw[h3];exact h.long
theorem NumS.crash{m:Nat}{D:Dk}(h:NumS m D)(keep torn:Int):NumS m (crashD D keep torn):=⟨h.clock,h.trace,by rw[show(crashD D keep torn).later=[] from rfl,length_nil];omega,by show(D.inos.map _).length<=_;rw[length_map];exact h.inos,h.edits,h.path,h.long⟩
theorem step_num{m:Nat}{D:Dk}(h:Num m D)(c:Did):NumS m (stepD D c).1:=by
 unfold stepD;split
 ·exact⟨by have:=h.clock;show D.clock<=_;omega,by have:=h.trace;show D.trace.length<=_;omega,Nat.le_trans h.later (Nat.le_add_right _ _),by have:=h.inos;show D.inos.length<=_;omega,h.edits,h.path,h.long⟩
 ·split
  ·exact(begun_num h c).crash _ _
  ·split
   ·exact begun_num h c
   ·exact begun_num h c
theorem rest_clock{S:Nat->Prop}{W:World}{D:Dk}{adr:Int->Nat}{pend:List Nd}{x:Parts}(h:DM.Rest S W D adr pend x)(c:Nat)(b:Bool):DM.Rest S W { D with clock:=c,off:=b } adr pend x :=
 { names:=h.names,nin:=h.nin,safe:=h.safe,sin:=h.sin,apart:=h.apart,ch:=h.ch,chin:=h.chin,each:=h.each,crow:=h.crow,later:=h.later,ends:=h.ends,lens:=h.lens,inos:=h.inos,iin:=h.iin,inj:=h.inj,fates:=h.fates,fin:=h.fin,edits:=h.edits,ein:=h.ein,elen:=h.elen,vals:=h.vals,trace:=h.trace,tin:=h.tin }
theorem fit_clock{D:Dk}(h:Fit D)(c:Nat)(b:Bool)(t:List Did)(fs:List Fate)(es:List Edit):Fit { D with clock:=c,off:=b,trace:=t,fates:=fs,edits:=es }:=⟨h.names,h.safe,h.later,h.data⟩
theorem diskX_clock{S:Nat->Prop}{W:World}{p:Nat}{D:Dk}{adr:Int->Nat}{pend:List Nd}{x:Parts}(h:DiskX S W p D adr pend x)(c:Nat):DiskX S (W.setCell ⟨p,5,none⟩ (.int .i64 (c:Nat))) p { D with clock:=c } adr pend x:=by
 have hs:(W.setCell ⟨p,5,none⟩ (.int .i64 (c:Nat))).heap.size=W.heap.size:=set_size _ _ _;refine⟨row_set (j:=5) h.row _,rest_clock (h.rest.keep (by omega) (fun k hk=>set_other W p 5 k _ (fun e=>h.np (e ▸ hk)))) c D.off,fun k hk=>by rw[hs];exact h.lt k hk,h.np,fit_clock h.fit c D.off D.trace D.fates D.edits⟩
theorem dids_snoc(cs:List Did)(c:Did):didsC (cs++[c])=didsC cs++didC c:=by unfold didsC;rw[List.flatMap_append];simp
theorem diskX_trace{S:Nat->Prop}{W W1:World}{p:Nat}{D:Dk}{adr:Int->Nat}{pend:List Nd}{x:Parts}{v:Value}{c:Did}(h:DiskX S W p D adr pend x)(hg:W.grownBy W1 x.vt.ownBlock)(ho:W1.ownsRow 0 75 3 v (D.trace.length+1) (didsC D.trace++didC c))
  (hb:v.ownBlock=x.vt.ownBlock\/v.ownBlock=some W.heap.size) :
  DiskX (fun k=>S k\/(W.heap.size<=k/\k<W1.heap.size)) (W1.setCell ⟨p,8,none⟩ v) p { D with trace:=D.trace++[c] } adr pend { x with vt:=v }:=by
 have am:=(Array.getElem?_eq_some_iff.1 h.row).1;have hs:=hg.size;have de:(W1.setCell ⟨p,8,none⟩ v).heap.size=W1.heap.size:=set_size _ _ _;have eo:IsT W p 122:=⟨_,_,h.row⟩;have dW:x.vt.ownBlock≠some p:=fun e=>h.np (h.rest.tin p e)
 have hv:v.ownBlock≠some p:=fun e=>by
  rcases hb with h1|h1
  ·exact dW (h1 ▸ e)
  ·rw[h1]at e;injection e with e;omega
 have bK:∀ g,v.ownBlock=some g->S g\/(W.heap.size<=g/\g<W1.heap.size):=fun g hg2=>by
  rcases hb with h1|h1
  ·exact .inl (h.rest.tin g (h1 ▸ hg2))
  ·have:=(ho.lt g hg2).2;rw[h1]at hg2;injection hg2 with hg2;exact .inr ⟨by omega,this⟩
 have same:∀ k,k<W.heap.size->x.vt.ownBlock≠some k->k≠p->(W1.setCell ⟨p,8,none⟩ v).heap[k]?=W.heap[k]?:=fun k hk hn hp=>(set_other W1 p 8 k _ (fun e=>hp e)).trans (hg.block k hk (fun e=>hn e.symm))
 have rows:∀(t:TypeId) {n size:Nat} {u:Value} {xs:List Value},W.ownsRow 0 t size u n xs->(∀ g,u.ownBlock=some g->S g)->t≠75->(W1.setCell ⟨p,8,none⟩ v).ownsRow 0 t size u n xs:=fun t {n size u xs} ho2 hi h1 =>
  own_same ho2 fun g hg2=>same g (h.lt g (hi g hg2)) (fun e=>(own_type ho2 g hg2).ne (own_type h.rest.trace g e) h1 rfl) (fun e=>h.np (e ▸ hi g hg2))
 have cW:∀ k t,IsT W k t->S k->t≠75->(W1.setCell ⟨p,8,none⟩ v).heap[k]?=W.heap[k]?:=fun k t ht hS av =>
  same k (h.lt k hS) (fun e=>ht.ne (own_type h.rest.trace k e) av rfl) (fun e=>h.np (e ▸ hS))
 have hr:=h.rest;have bd:W.heap.size<=(W1.setCell ⟨p,8,none⟩ v).heap.size:=by omega
 refine⟨?_,?_,fun k hk=>?_,?_,fit_clock h.fit D.clock D.off _ D.fates D.edits⟩
 ·exact row_set (j:=8) ((hg.block p am (fun e=>dW e.symm)).trans h.row) _
 ·exact {
   names:=rows _ hr.names hr.nin (by decide)
   nin:=fun g hg=>.inl (hr.nin g hg)
   safe:=rows _ hr.safe hr.sin (by decide)
   sin:=fun g hg=>.inl (hr.sin g hg)
   apart:=hr.apart
   ch:=rows _ hr.ch hr.chin (by decide)
   chin:=fun g hg=>.inl (hr.chin g hg)
   each:=fun e he=>by
    obtain⟨h1,h2,h3⟩:=hr.each e he;exact⟨h1.same bd (fun a ha _=>cW _ _ (h3 a ha).2.1 (h3 a ha).1 (by decide)),h2,fun a ha=>⟨.inl (h3 a ha).1,(h3 a ha).2.1.same (cW _ _ (h3 a ha).2.1 (h3 a ha).1 (by decide)),(h3 a ha).2.2⟩⟩
   crow:=hr.crow
   later:=hr.later
   ends:=hr.ends
   lens:=hr.lens
   inos:=layI_same hr.inos fun e he h0=>cW _ _ (ino_type (hr.inos e he h0)) (hr.iin e he h0) (by decide)
   iin:=fun e he h0=>.inl (hr.iin e he h0)
   inj:=hr.inj
   fates:=rows _ hr.fates hr.fin (by decide)
   fin:=fun g hg=>.inl (hr.fin g hg)
   edits:=rows _ hr.edits hr.ein (by decide)
   ein:=fun g hg=>.inl (hr.ein g hg)
   elen:=hr.elen
   vals:=fun j e u he hu=>by
    obtain⟨h1,h2⟩:=hr.vals j e u he hu;refine⟨rows _ h1 (fun g hg=>?_) (by decide),fun a ha=>.inl (h2 a ha)⟩
    cases ha:u.a with
    | none=>rw[ha]at hg;cases hg
    | some a =>
     rw[ha]at hg;injection hg with hg;rw[<- hg];exact h2 a ha
   trace:=by
    show(W1.setCell ⟨p,8,none⟩ v).ownsRow 0 _ 3 v (D.trace++[c]).length (didsC (D.trace++[c]));rw[dids_snoc,length_append,length_singleton];exact own_same ho fun g hg=>set_other W1 p 8 g _ (fun e=>hv (e ▸ hg))
   tin:=bK }
 ·rw[de];rcases hk with hk|hk
  ·exact Nat.lt_of_lt_of_le (h.lt k hk) hs
  ·exact hk.2
 ·rintro (hk|hk)
  ·exact h.np hk
  ·omega
end DG
end
end Go.Proofs.YtkmcjededpamnaaGreatDoor
