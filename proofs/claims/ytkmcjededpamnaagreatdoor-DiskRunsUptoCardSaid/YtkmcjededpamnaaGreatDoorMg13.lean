import Derived.Test.YtkmcjededpamnaaGreatDoorMg12
import Derived.BigRegion
set_option linter.all false
set_option maxRecDepth 100000
set_option maxHeartbeats 0
namespace Go.Proofs.YtkmcjededpamnaaGreatDoor
open List(length_append getElem?_eq_getElem length_set getElem?_eq_none)
section
open Go.RowKit Go.Lib
namespace RK
open OM TP TM DP DM FP DG
def reC(e:Nd):List Value:=[txt e.path,.int .i64 e.kind]
def resC(ns:List Nd):List Value:=ns.flatMap reC
structure REAt(W:World)(g o:Nat)(e:Nd):Prop where
 p:W.cell? ⟨g,o,none⟩=some (txt e.path)
 i:W.cell? ⟨g,o+1,none⟩=some (.int .i64 e.kind)
def LayR(W:World)(T:Nat->Prop)(ao:Option Addr)(ns:List Nd):Prop :=
 0<ns.length->∃ g o,ao=some ⟨g,o,none⟩/\g<W.heap.size/\T g/\IsT W g 130/\∀(k:Nat) (e:Nd),ns[k]?=some e->REAt W g (o+k*2) e
theorem REAt.same{W W':World}{g o:Nat}{e:Nd}(h:REAt W g o e)(hb:W'.heap[g]?=W.heap[g]?):REAt W' g o e :=
 ⟨(World.cell?_of_block (a:=⟨g,o,none⟩) hb).trans h.p,(World.cell?_of_block (a:=⟨g,o+1,none⟩) hb).trans h.i⟩
theorem LayR.same{W W':World}{T:Nat->Prop}{ao:Option Addr}{ns:List Nd}(h:LayR W T ao ns)(hs:W.heap.size<=W'.heap.size)(hb:∀ g,T g->IsT W g 130->W'.heap[g]?=W.heap[g]?):LayR W' T ao ns:=fun h0=>by
 obtain⟨g,o,e,ab,ht,hi,hc⟩:=h h0;have e2:=hb g ht hi;exact⟨g,o,e,by omega,ht,hi.same e2,fun k n hk=>(hc k n hk).same e2⟩
theorem LayR.sup{W:World}{T U:Nat->Prop}{ao:Option Addr}{ns:List Nd}(h:LayR W T ao ns)(hT:∀ k,T k->U k):LayR W U ao ns:=fun h0=>by
 obtain⟨g,o,e,ab,ht,hi,hc⟩:=h h0;exact⟨g,o,e,ab,hT g ht,hi,hc⟩
theorem LayR.below{W W':World}{T:Nat->Prop}{ao:Option Addr}{ns:List Nd}(h:LayR W T ao ns)(hb:Below W.heap.size W W'):LayR W' T ao ns :=
 h.same hb.size (fun g _ hi=>hb.block g (by obtain⟨c,fz,h⟩:=hi;exact(Array.getElem?_eq_some_iff.1 h).1))
theorem res_len(ns:List Nd):(resC ns).length=ns.length*2:=by
 induction ns with
 | nil=>rfl
 | cons n ns ih =>
  show(reC n++resC ns).length=_;rw[length_append,ih,List.length_cons];show 2+_=_;omega
theorem res_app(a b:List Nd):resC (a++b)=resC a++resC b:=by unfold resC;rw[List.flatMap_append]
theorem res_snoc(a:List Nd)(e:Nd):resC (a++[e])=resC a++reC e:=by rw[res_app];rfl
theorem re_one(e:Nd):∀ u∈reC e,u.oneCell'=true:=fun u hu=>by
 unfold reC at hu;simp at hu;rcases hu with rfl|rfl<;>rfl
theorem res_one(ns:List Nd):∀ u∈resC ns,u.oneCell'=true:=by
 intro u hu;obtain⟨e,_,he⟩:=List.mem_flatMap.1 hu;exact re_one e u he
theorem res_at:∀(ns:List Nd) (k:Nat) (e:Nd),ns[k]?=some e->(resC ns)[k*2]?=some (txt e.path)/\(resC ns)[k*2+1]?=some (.int .i64 e.kind)
 | [],k,n,h=>by simp at h
 | x::ns,0,n,h=>by
  simp at h;subst h;exact⟨rfl,rfl⟩
 | x::ns,k+1,n,h=>by
  rw[List.getElem?_cons_succ]at h;have ih:=res_at ns k n h
  have e:∀ j,(resC (x::ns))[(k+1)*2+j]?=(resC ns)[k*2+j]?:=fun j=>by
   show(reC x++resC ns)[_]?=_;rw[List.getElem?_append_right (by show 2<=_;omega)];congr 1;show _-2=_;omega
  exact⟨(e 0).trans ih.1,(e 1).trans ih.2⟩
theorem layR_own{w:World}{B:Nat}{v:Value}{ns:List Nd}{T:Nat->Prop}(h:w.ownsRow B 130 2 v ns.length (resC ns))(hT:∀ g,v.ownBlock=some g->T g):∃ ao c,v=.slice ao ns.length c/\LayR w T ao ns:=by
 have bW:=own_type h;obtain⟨ao,c,rfl,hx⟩:=owns_view h;refine⟨ao,c,rfl,fun h0=>?_⟩;obtain⟨g,rfl,hg,_,hc⟩:=hx h0;refine⟨g,0,rfl,hg,hT g rfl,bW g rfl,fun k n hk=>?_⟩;have bp:=(List.getElem?_eq_some_iff.1 hk).1;obtain⟨a,b⟩:=res_at ns k n hk;rw[Nat.zero_add];have hz:=res_len ns;exact⟨(hc _ (by omega)).trans a,(hc _ (by omega)).trans b⟩
def riC(i:Ino):List Value:=[.int .i64 i.kind,.int .i64 i.mode,.int .i64 i.time,txt i.data,.bool i.dirty]
def risC(l:List Ino):List Value:=l.flatMap riC
def riV(i:Ino):Value:=.agg #[.int .i64 i.kind,.int .i64 i.mode,.int .i64 i.time,txt i.data,.bool i.dirty]
theorem ris_len(l:List Ino):(risC l).length=l.length*5:=by
 induction l with
 | nil=>rfl
 | cons n ns ih =>
  show(riC n++risC ns).length=_;rw[length_append,ih,List.length_cons];show 5+_=_;omega
theorem ris_snoc(a:List Ino)(e:Ino):risC (a++[e])=risC a++riC e:=by unfold risC;rw[List.flatMap_append];simp
theorem ri_one(e:Ino):∀ u∈riC e,u.oneCell'=true:=fun u hu=>by
 unfold riC at hu;simp at hu;rcases hu with rfl|rfl|rfl|rfl|rfl<;>rfl
theorem ris_one(ns:List Ino):∀ u∈risC ns,u.oneCell'=true:=by
 intro u hu;obtain⟨e,_,he⟩:=List.mem_flatMap.1 hu;exact ri_one e u he
theorem ris_at:∀(l:List Ino) (k:Nat) (e:Ino) (j:Nat),l[k]?=some e->j<5->(risC l)[k*5+j]?=(riC e)[j]?
 | [],k,n,j,h,_=>by simp at h
 | x::ns,0,n,j,h,hj=>by
  simp at h;subst h;show(riC x++risC ns)[0*5+j]?=_;rw[Nat.zero_mul,Nat.zero_add,List.getElem?_append_left (by show j<5;exact hj)]
 | x::ns,k+1,n,j,h,hj=>by
  rw[List.getElem?_cons_succ]at h;have ih:=ris_at ns k n j h hj;show(riC x++risC ns)[(k+1)*5+j]?=_;rw[List.getElem?_append_right (by show 5<=_;omega),← ih];congr 1;show _-5=_;omega
structure RP where
 an:Option Addr
 cn:Nat
 as_:Option Addr
 cs:Nat
 vl:Value
 ls:List (Option Addr×Nat)
 vi:Value
 vt:Value
 af:Option Addr
 cf:Nat
 ae:Option Addr
 ce:Nat
 evs:List Ev
def slV(l:List Nd)(a:Option Addr×Nat):Value:=.slice a.1 l.length a.2
def lsC(later:List (List Nd))(ls:List (Option Addr×Nat)):List Value:=List.zipWith slV later ls
def rdC(D:Dk)(x:RP):Array Value :=
 #[.slice x.an D.names.length x.cn,.slice x.as_ D.safe.length x.cs,x.vl,x.vi,.bool D.off,.int .i64 (D.trace.length:Nat),.int .i64 (D.clock:Nat),x.vt,.slice x.af D.fates.length x.cf,.slice x.ae D.edits.length x.ce]
structure FArg(w:World)(af:Option Addr)(fs:List Fate):Prop where
 at_:∀ ad,af=some ad->∀(j:Nat) (u:Value),(fatesC fs)[j]?=some u->w.cell? (ad.add j)=some u
 lt:∀ ad,af=some ad->0<fs.length->ad.block<w.heap.size
 no:af=none->fs.length=0
 len:fs.length<=1048576
structure RX(w:World)(T:Nat->Prop)(W:World)(Q m:Nat)(D:Dk)(x:RP):Prop where
 row:W.heap[Q]?=some (.cells (rdC D x) 57 (0,0))
 names:LayR W T x.an D.names
 safe:LayR W T x.as_ D.safe
 later:W.ownsRow 0 53 1 x.vl D.later.length (lsC D.later x.ls)
 llen:x.ls.length=D.later.length
 lin:∀ g,x.vl.ownBlock=some g->T g
 each:∀(j:Nat) a l,x.ls[j]?=some a->D.later[j]?=some l->LayR W T a.1 l
 inos:W.ownsRow 0 128 5 x.vi D.inos.length (risC D.inos)
 iin:∀ g,x.vi.ownBlock=some g->T g
 trace:W.ownsRow 0 75 3 x.vt D.trace.length (didsC D.trace)
 tin:∀ g,x.vt.ownBlock=some g->T g
 fates:FArg w x.af D.fates
 edits:EdArg w x.ae x.ce D.edits x.evs
 epath:∀ e∈D.edits,e.path.length<=maxLen
 lo:∀ k,T k->w.heap.size<=k
 ql:w.heap.size<=Q
 lt:∀ k,T k->k<W.heap.size
 np:¬ T Q
 bel:Below w.heap.size w W
 num:Num m D
def RS(w W:World)(T:Nat->Prop)(Q m:Nat)(D:Dk):Prop:=∃ x,RX w T W Q m D x
def RAft(w W:World)(T:Nat->Prop)(Q m:Nat)(D:Dk)(W':World):Prop :=
 ∃ T',RS w W' T' Q m D/\(∀ k,T' k->T k\/W.heap.size<=k)/\Out (fun k=>T k\/k=Q) W W'
theorem RX.keep{w W W':World}{T:Nat->Prop}{Q m:Nat}{D:Dk}{x:RP}(h:RX w T W Q m D x)(hs:W.heap.size<=W'.heap.size)(hq:W'.heap[Q]?=W.heap[Q]?)(hk:∀ k,T k->W'.heap[k]?=W.heap[k]?)(hb:Below w.heap.size w W'):RX w T W' Q m D x where
 row:=hq.trans h.row
 names:=h.names.same hs (fun g hg _=>hk g hg)
 safe:=h.safe.same hs (fun g hg _=>hk g hg)
 later:=own_same h.later (fun g hg=>hk g (h.lin g hg))
 llen:=h.llen
 lin:=h.lin
 each:=fun j a l h1 h2=>(h.each j a l h1 h2).same hs (fun g hg _=>hk g hg)
 inos:=own_same h.inos (fun g hg=>hk g (h.iin g hg))
 iin:=h.iin
 trace:=own_same h.trace (fun g hg=>hk g (h.tin g hg))
 tin:=h.tin
 fates:=h.fates
 edits:=h.edits
 epath:=h.epath
 lo:=h.lo
 ql:=h.ql
 lt:=fun k hk2=>Nat.lt_of_lt_of_le (h.lt k hk2) hs
 np:=h.np
 bel:=hb
 num:=h.num
theorem RX.below{w W W':World}{T:Nat->Prop}{Q m:Nat}{D:Dk}{x:RP}(h:RX w T W Q m D x)(hb:Below W.heap.size W W'):RX w T W' Q m D x :=
 h.keep hb.size (hb.block Q (Array.getElem?_eq_some_iff.1 h.row).1) (fun k hk=>hb.block k (h.lt k hk)) (Below.trans h.bel (hb.mono h.bel.size))
theorem RS.below{w W W':World}{T:Nat->Prop}{Q m:Nat}{D:Dk}(h:RS w W T Q m D)(hb:Below W.heap.size W W'):RS w W' T Q m D:=by
 obtain⟨x,h⟩:=h;exact⟨x,h.below hb⟩
theorem RS.out{w W W':World}{T U:Nat->Prop}{Q m:Nat}{D:Dk}(h:RS w W T Q m D)(ho:Out U W W')(hU:∀ k,U k->¬ T k/\k≠Q/\w.heap.size<=k):RS w W' T Q m D:=by
 obtain⟨x,h⟩:=h;exact⟨x,h.keep ho.size (ho.block Q (Array.getElem?_eq_some_iff.1 h.row).1 (fun ht=>(hU Q ht).2.1 rfl)) (fun k hk=>ho.block k (h.lt k hk) (fun ht=>(hU k ht).1 hk)) (((Out.of_below h.bel).then ho (fun j _ hj=>(hU j hj).2.2)).below (fun k hk _ h2=>by omega) (Nat.le_refl _))⟩
theorem RS.lts{w W:World}{T:Nat->Prop}{Q m:Nat}{D:Dk}(h:RS w W T Q m D):Q<W.heap.size/\∀ k,T k->k<W.heap.size:=by
 obtain⟨x,h⟩:=h;exact⟨(Array.getElem?_eq_some_iff.1 h.row).1,h.lt⟩
theorem RAft.under{w W V W':World}{T:Nat->Prop}{Q m:Nat}{D:Dk}(hb:Below W.heap.size W V)(h:RAft w V T Q m D W'):RAft w W T Q m D W':=by
 obtain⟨S',hd,hs,ho⟩:=h;exact⟨S',hd,fun k hk=>(hs k hk).imp id (fun h=>Nat.le_trans hb.size h),((Out.refl _ W).thenBelow hb).then ho (fun _ _ h=>h)⟩
theorem RAft.later{w W W' W2:World}{T:Nat->Prop}{Q m:Nat}{D:Dk}(h:RAft w W T Q m D W')(hb:Below W'.heap.size W' W2):RAft w W T Q m D W2:=by
 obtain⟨S',hd,hs,ho⟩:=h;exact⟨S',hd.below hb,hs,ho.thenBelow hb⟩
theorem RAft.chain{w W V W':World}{T T1:Nat->Prop}{Q m:Nat}{D:Dk}(hs1:∀ k,T1 k->T k\/W.heap.size<=k)(ho1:Out (fun k=>T k\/k=Q) W V)(h:RAft w V T1 Q m D W'):RAft w W T Q m D W':=by
 obtain⟨S',hd,hs,ho⟩:=h;refine⟨S',hd,fun k hk=>?_,ho1.then ho (fun j hj h=>?_)⟩
 ·rcases hs k hk with h|h
  ·exact hs1 k h
  ·exact .inr (Nat.le_trans ho1.size h)
 ·rcases h with h|h
  ·rcases hs1 j h with h|h
   ·exact .inl h
   ·omega
  ·exact .inr h
theorem RAft.same{w W:World}{T:Nat->Prop}{Q m:Nat}{D:Dk}(h:RS w W T Q m D):RAft w W T Q m D W:=⟨T,h,fun _ h=>.inl h,Out.refl _ _⟩
end RK
end
section
open Go.RowKit Go.Lib Go.BigFrame
namespace RK
open OM TP TM DP DM FP DG TG TR
theorem row10{W:World}{b:Nat}{a0 a1 a2 a3 a4 a5 a6 a7 a8 a9:Value}{t:TypeId}(h:W.heap[b]?=some (.cells #[a0,a1,a2,a3,a4,a5,a6,a7,a8,a9] t (0,0))) :
  W.cell? ⟨b,0,none⟩=some a0/\W.cell? ⟨b,1,none⟩=some a1/\W.cell? ⟨b,2,none⟩=some a2/\W.cell? ⟨b,3,none⟩=some a3/\W.cell? ⟨b,4,none⟩=some a4/\W.cell? ⟨b,5,none⟩=some a5/\W.cell? ⟨b,6,none⟩=some a6/\W.cell? ⟨b,7,none⟩=some a7/\W.cell? ⟨b,8,none⟩=some a8/\W.cell? ⟨b,9,none⟩=some a9/\∀ j,W.frozen? ⟨b,j,none⟩=false :=
 ⟨by rw[cell_of_row W b 0 _ _ _ h];rfl,by rw[cell_of_row W b 1 _ _ _ h];rfl,by rw[cell_of_row W b 2 _ _ _ h];rfl,by rw[cell_of_row W b 3 _ _ _ h];rfl,by rw[cell_of_row W b 4 _ _ _ h];rfl,by rw[cell_of_row W b 5 _ _ _ h];rfl,by rw[cell_of_row W b 6 _ _ _ h];rfl,by rw[cell_of_row W b 7 _ _ _ h];rfl,by rw[cell_of_row W b 8 _ _ _ h];rfl,by rw[cell_of_row W b 9 _ _ _ h];rfl,fun j=>frozen_of_row W b j _ _ h⟩
theorem kfind_any(w W:World)(T:Nat->Prop)(Q m:Nat)(D:Dk)(p:List UInt8)(h:RS w W T Q m D)(hl:D.names.length<=1000) :
  Calls Tryz.prog 134 #[.pointer (some ⟨Q,0,none⟩),txt p] W fun r w'=>∃ z,r=.returned (.int .i64 z)/\FindSays D.names p z/\Below W.heap.size W w':=by
 obtain⟨x,hx⟩:=h;obtain⟨ts,aR⟩:∃ ts,D.names=ts:=⟨_,rfl⟩;obtain⟨n,hn⟩:∃ n,ts.length=n:=⟨_,rfl⟩;have hr:=hx.row;have hL:=hx.names;have ab:=(Array.getElem?_eq_some_iff.1 hr).1;unfold rdC at hr;rw[aR]at hr hL hl ⊢;rw[hn]at hr hl;obtain⟨c0,-⟩:=row10 hr;obtain⟨ao,ap⟩:∃ a,x.an=a:=⟨_,rfl⟩;obtain⟨cap,ah⟩:∃ a,x.cn=a:=⟨_,rfl⟩;rw[ap,ah]at c0;rw[ap]at hL;have HN:=hid hn;have HL:=hid hL;have HQ:=hid ab;have HC:=hid c0;have bV:(n:Int)<=9223372036854775807:=by omega
 obtain⟨S,hS,aD⟩:=txt_of p;have HS:=hid aD;rw[hS];clear hx hr hL ab aR hn ap ah hl hS aD c0;go_enter Tryz.func134,Tryz.ntmps134;repeat (first|go_skip|go_guarded|go_step|go_upon)
 go_loopw [5] (fun s5 wr=>∃ k:Nat,s5=.int .i64 k/\k<=n/\(∀(j:Nat) (m:Nd),j<k->ts[j]?=some m->m.path≠p)/\Below W.heap.size W wr) (fun s5 _=>n-(RowKit.intOf s5).toNat)
 case atStart=>exact⟨0,rfl,Nat.zero_le _,fun j m hj=>by omega,Below.refl _ _⟩
 case round =>
  obtain⟨k,rfl,hk,b7,hb⟩:=hrel;have bk:=hid b7;have HB:=hid hb;have aO:=hid (HL.out.below hb);have c0:=(hb.cell (p:=⟨Q,0,none⟩) HQ.out).trans HC.out;clear b7 hb;by_cases ab:k<n
  ·have aM:(k:Int)<n:=by omega
   obtain⟨g,o,rfl,_,_,_,hc⟩:=aO.out (by rw[HN.out];omega);obtain⟨x,hx⟩:∃ x,ts[k]?=some x:=⟨ts[k]'(by rw[HN.out];exact ab),getElem?_eq_getElem _⟩;obtain⟨X,hX,az⟩:=txt_of x.path;have c1:=(hc k x hx).p;rw[hX]at c1;by_cases he:x.path=p
   ·have hb:(X.toList==S.toList)=true:=by rw[toList_data,toList_data,az,HS.out,he];simp
    have HF:Hid (FindSays ts p k):=hid (.inl ⟨k,x,rfl,hx,he,bk.out⟩);clear hc hx hX az he;repeat (first|go_skip|go_guarded|go_step|go_upon)
    go_ret;exact⟨_,rfl,HF.out,HB.out⟩
   ·have hb:(X.toList==S.toList)=false:=by rw[toList_data,toList_data,az,HS.out];simpa using he
    have bn:Hid (∀(j:Nat) (m:Nd),j<k+1->ts[j]?=some m->m.path≠p):=hid (fun j m hj hm=>by
     by_cases hjk:j=k
     ·rw[hjk,hx]at hm;cases hm;exact he
     ·exact bk.out j m (by omega) hm)
    clear hc hx hX az he;repeat (first|go_skip|go_guarded|go_step|go_upon)
    exact⟨⟨k+1,by go_num,by omega,bn.out,HB.out⟩,by simp[RowKit.intOf];omega⟩
  ·have aM:¬(k:Int)<n:=by omega
   have HF:Hid (FindSays ts p (-1)):=hid (.inr ⟨rfl,fun m hm=>by
    obtain⟨j,hj,e⟩:=List.getElem_of_mem hm
    exact bk.out j m (by have:=HN.out;omega) (by rw[<- e];exact getElem?_eq_getElem _)⟩)
   clear ab;repeat (first|go_skip|go_guarded|go_step|go_upon)
   go_ret;exact⟨_,rfl,HF.out,HB.out⟩
theorem inos_at{W:World}{vi:Value}{I:List Ino}(h:W.ownsRow 0 128 5 vi I.length (risC I)){k:Nat}{i:Ino}(hk:I[k]?=some i) :
  ∃ g c,vi=.slice (some ⟨g,0,none⟩) I.length c/\g<W.heap.size/\W.cell? ⟨g,k*5,none⟩=some (.int .i64 i.kind)/\W.cell? ⟨g,k*5+1,none⟩=some (.int .i64 i.mode)/\W.cell? ⟨g,k*5+2,none⟩=some (.int .i64 i.time)/\W.cell? ⟨g,k*5+3,none⟩=some (txt i.data)/\W.cell? ⟨g,k*5+4,none⟩=some (.bool i.dirty):=by
 obtain⟨ao,c,rfl,hx⟩:=owns_view h;have bp:=(List.getElem?_eq_some_iff.1 hk).1;obtain⟨g,rfl,hg,_,hc⟩:=hx (by omega);have hz:=ris_len I;refine⟨g,c,rfl,hg,?_,?_,?_,?_,?_⟩
 ·exact(hc (k*5) (by omega)).trans ((ris_at I k i 0 hk (by omega)).trans rfl)
 ·exact(hc (k*5+1) (by omega)).trans ((ris_at I k i 1 hk (by omega)).trans rfl)
 ·exact(hc (k*5+2) (by omega)).trans ((ris_at I k i 2 hk (by omega)).trans rfl)
 ·exact(hc (k*5+3) (by omega)).trans ((ris_at I k i 3 hk (by omega)).trans rfl)
 ·exact(hc (k*5+4) (by omega)).trans ((ris_at I k i 4 hk (by omega)).trans rfl)
theorem ino_get{D:Dk}(hf:Fit D){e:Nd}(he:e∈D.names):∃ k:Nat,e.kind=(k+1:Nat)/\D.inos[k]?=some (inoOf D.inos e.kind):=by
 obtain⟨k,h1,h2,h3⟩:=hf.names.ino e he;have hk:e.kind=(k:Int):=by rw[h1];rfl
 refine⟨k-1,by rw[hk];omega,?_⟩;rw[hk];unfold inoOf;rw[show((k:Int).toNat-1)=k-1 by omega,List.getD_eq_getElem?_getD,getElem?_eq_getElem (by omega)];rfl
theorem kdir_any(w W:World)(T:Nat->Prop)(Q m:Nat)(D:Dk)(p:List UInt8)(h:RS w W T Q m D)(hf:Fit D) :
  Calls Tryz.prog 133 #[.pointer (some ⟨Q,0,none⟩),txt p] W fun r w'=>r=.returned (.bool (decide (kindD D p=2)))/\Below W.heap.size W w':=by
 have CF:=hid (kfind_any w W T Q m D p h hf.names.len);obtain⟨S,hS,aD⟩:=txt_of p;have HF:=hid hf;have HH:=hid h;rw[hS]at CF ⊢;obtain⟨x,hx⟩:=h;have hr:=hx.row;have ab:=(Array.getElem?_eq_some_iff.1 hr).1;have aq:=hx.inos;have aI:=hx.names;unfold rdC at hr;obtain⟨vi,ay⟩:∃ v,x.vi=v:=⟨_,rfl⟩;obtain⟨ao,ap⟩:∃ a,x.an=a:=⟨_,rfl⟩;obtain⟨cap,ah⟩:∃ a,x.cn=a:=⟨_,rfl⟩;obtain⟨n,hn⟩:∃ n,D.names.length=n:=⟨_,rfl⟩;rw[ay,ap,ah,hn]at hr;rw[ay]at aq;rw[ap]at aI;obtain⟨ai,ci,rfl,aN⟩:=owns_view aq;obtain⟨ni,aF⟩:∃ n,D.inos.length=n:=⟨_,rfl⟩;rw[aF]at hr;obtain⟨c0,-,-,c3,-⟩:=row10 hr;have bt:=hid c0;have be:=hid c3;have aL:=hid ab;have bh:=hid aq;have b2:=hid aI;have HN:=hid hn;have bf:=hid aF;have bG:=hid aD;clear hx hr ab aq aI ay ap ah hn aF c0 c3 aN hf hS aD HH;go_enter Tryz.func133,Tryz.ntmps133;repeat (first|go_skip|go_guarded|go_step|go_upon)
 refine CF.out.mono ?_;rintro r w1 ⟨z,rfl,hs,aB⟩;simp only[];have bx:=hid aB;have c0:=(aB.cell (p:=⟨Q,0,none⟩) aL.out).trans bt.out;have c3:=(aB.cell (p:=⟨Q,3,none⟩) aL.out).trans be.out;have al:=b2.out.below aB;have ak:=owns_below bh.out aB;have f0:=cell_regrown c0;have f3:=cell_regrown c3;by_cases h0:p=[]
 ·have hb:S.toList.isEmpty=true:=by rw[toList_data,bG.out,h0];rfl
  have HB:Hid (decide (kindD D p=2)=true):=hid (by unfold kindD kindN;rw[if_pos h0];rfl);clear h0 hs aB c0 c3 al ak;repeat (first|go_skip|go_guarded|go_step|go_upon)
  go_quiet (fail);repeat (first|go_skip|go_guarded|go_step|go_upon)
  go_ret;exact⟨by rw[HB.out];first|done|rfl,NA.below_drewN bx.out _⟩
 ·have hb:S.toList.isEmpty=false:=by rw[toList_data,bG.out];simpa using h0
  have HD:Hid (kindD D p=(match findN D.names p with|some e=>(inoOf D.inos e.kind).kind|none=>0)):=hid (by unfold kindD kindN;rw[if_neg h0];rfl);clear h0;rcases find_says hs with ⟨k,e,rfl,hx,aQ⟩|⟨rfl,aQ⟩
  ·have bp:=(List.getElem?_eq_some_iff.1 hx).1;have aM:(k:Int)<n:=by have:=HN.out;omega
   obtain⟨g,o,rfl,_,_,_,hc⟩:=al (by omega);have c1:=(hc k e hx).i;obtain⟨q,hq,aE⟩:=ino_get HF.out (List.mem_of_getElem? hx);have bi:=(List.getElem?_eq_some_iff.1 aE).1;have bQ:(q:Int)<ni:=by have:=bf.out;omega
   have cx:RowKit.wrap64 (q:Int)=q:=by have:=owns_len ak;unfold maxLen at this;unfold RowKit.wrap64;omega
   obtain⟨g2,cc,aG,_,d0,-⟩:=inos_at ak aE;injection aG with aG _ hcc;subst aG;rw[hq]at c1;have f1:=cell_regrown c1;have g0:=cell_regrown d0;obtain⟨kd,aC⟩:∃ z,(inoOf D.inos e.kind).kind=z:=⟨_,rfl⟩;rw[aC]at g0 d0;obtain⟨b,cj⟩:∃ b,(kd==2)=b:=⟨_,rfl⟩;have HB:Hid (decide (kindD D p=2)=b):=hid (by rw[show kindD D p=kd by rw[HD.out,aQ];exact aC,← cj,Bool.eq_iff_iff];simp);clear hs aB aQ hx hc bp al ak bi aE hq aC hcc;repeat (first|go_skip|go_guarded|go_step|go_upon)
   go_quiet (fail);repeat (first|go_skip|go_guarded|go_step|go_upon)
   go_ret;exact⟨by rw[HB.out];first|done|rfl,NA.below_drewN bx.out _⟩
  ·have HB:Hid (decide (kindD D p=2)=false):=hid (by rw[show kindD D p=0 by rw[HD.out,aQ]];rfl);clear hs aB aQ al ak;repeat (first|go_skip|go_guarded|go_step|go_upon)
   go_quiet (fail);repeat (first|go_skip|go_guarded|go_step|go_upon)
   go_ret;exact⟨by rw[HB.out];first|done|rfl,NA.below_drewN bx.out _⟩
end RK
end
section
open Go.RowKit Go.Lib Go.BigFrame
namespace RK
open OM TP TM DP DM FP DG TG TR
theorem ktree_any(w W:World)(T:Nat->Prop)(Q m:Nat)(D:Dk)(h:RS w W T Q m D)(hf:Fit D) :
  Calls Tryz.prog 23 #[.pointer (some ⟨Q,0,none⟩)] W (TR.AtPost (treeD D) W):=by
 obtain⟨i0,aY,aV,aS,aW⟩:=info_parts infoN;obtain⟨x,hx⟩:=h;have hr:=hx.row;have ab:=(Array.getElem?_eq_some_iff.1 hr).1;have aq:=hx.inos;have aI:=hx.names;unfold rdC at hr;obtain⟨vi,ay⟩:∃ v,x.vi=v:=⟨_,rfl⟩;obtain⟨ao,ap⟩:∃ a,x.an=a:=⟨_,rfl⟩;obtain⟨cap,ah⟩:∃ a,x.cn=a:=⟨_,rfl⟩;obtain⟨n,hn⟩:∃ n,D.names.length=n:=⟨_,rfl⟩;have hl:=hf.names.len;rw[hn]at hl;rw[ay,ap,ah,hn]at hr;rw[ay]at aq;rw[ap]at aI;obtain⟨ai,ci,rfl,aN⟩:=owns_view aq;obtain⟨ni,aF⟩:∃ n,D.inos.length=n:=⟨_,rfl⟩;rw[aF]at hr;obtain⟨c0,-,-,c3,-⟩:=row10 hr;have bt:=hid c0;have be:=hid c3;have aL:=hid ab;have bh:=hid aq;have b2:=hid aI;have HN:=hid hn;have bf:=hid aF;have HF:=hid hf;clear hx hr ab aq aI ay ap ah hn aF c0 c3 aN hf;go_enter Tryz.func23,Tryz.ntmps23;repeat (first|go_skip|go_guarded|go_step|go_upon)
 go_loopw [3,4] (fun s2 s3 wr=>∃ k:Nat,s3=.int .i64 k/\k<=n/\wr.ownsRow W.heap.size 45 4 s2 (treeK D.inos D.names k).length (nodesC (treeK D.inos D.names k))/\Below W.heap.size W wr) (fun _ s3 _=>n-(RowKit.intOf s3).toNat)
 case atStart=>exact⟨0,rfl,Nat.zero_le _,World.ownsRow_nil _ _ _ _,Below.refl _ _⟩
 case round =>
  obtain⟨k,rfl,hk,ho,hb⟩:=hrel;have HO:=hid ho;have HB:=hid hb;have bd:=hb.size;have aT:=hid (treeK_len D.inos D.names k);have c0:=(hb.cell (p:=⟨Q,0,none⟩) aL.out).trans bt.out;have c3:=(hb.cell (p:=⟨Q,3,none⟩) aL.out).trans be.out;have al:=b2.out.below hb;have ak:=owns_below bh.out hb;clear ho hb;by_cases ab:k<n
  ·have aM:(k:Int)<n:=by omega
   obtain⟨g,o,rfl,_,_,_,hc⟩:=al (by have:=HN.out;omega);obtain⟨e,hx⟩:∃ x,D.names[k]?=some x:=⟨_,getElem?_eq_getElem (by rw[HN.out];exact ab)⟩;obtain⟨c1,c2⟩:=hc k e hx;obtain⟨q,hq,aE⟩:=ino_get HF.out (List.mem_of_getElem? hx);have bi:=(List.getElem?_eq_some_iff.1 aE).1;have bQ:(q:Int)<ni:=by have:=bf.out;omega
   have cB:q<9223372036854775807:=by have:=owns_len ak;unfold maxLen at this;omega
   obtain⟨g2,cc,aG,_,d0,d1,d2,d3,d4⟩:=inos_at ak aE;injection aG with aG _ hcc;subst aG;obtain⟨y,hy⟩:∃ y,nodeOf D.inos e=y:=⟨_,rfl⟩;have bF:y.path=e.path:=by rw[<- hy];rfl
   have bE:y.kind=(inoOf D.inos e.kind).kind:=by rw[<- hy];rfl
   have bH:y.data=(inoOf D.inos e.kind).data:=by rw[<- hy];rfl
   have bB:y.mode=(inoOf D.inos e.kind).mode:=by rw[<- hy];rfl
   have HK:=hid (treeK_succ (I:=D.inos) hx);rw[hy]at HK;rw[hq]at c2;rw[<- bE]at d0;rw[<- bB]at d1;rw[<- bH]at d3;rw[<- bF]at c1;obtain⟨tm,b8⟩:∃ z,(inoOf D.inos e.kind).time=z:=⟨_,rfl⟩;obtain⟨dr,b4⟩:∃ z,(inoOf D.inos e.kind).dirty=z:=⟨_,rfl⟩;rw[b8]at d2;rw[b4]at d4;obtain⟨X,hX,_⟩:=txt_of y.path;obtain⟨V,hV,_⟩:=txt_of y.data;obtain⟨ky,bu⟩:∃ z,y.kind=z:=⟨_,rfl⟩;obtain⟨my,bq⟩:∃ z,y.mode=z:=⟨_,rfl⟩;rw[hX]at c1;rw[hV]at d3;rw[bu]at d0;rw[bq]at d1
   have aX:Hid (∀(W:World) (j:Nat) (u:Value),(ndCells y)[j]?=some u->(W.alloc (.cells #[.string X,.int .i64 ky,.string V,.int .i64 my] 45)).cell? ((⟨W.heap.size,0,none⟩:Addr).add j)=some u):=hid (fun W=>by
    have:=four_new W _ rfl y _ _ hX hV 45;rw[bu,bq]at this
    exact this)
   clear hc hx bi aE al ak ab hcc hy bF bE bH bB b8 b4 hX hV bu bq hq;have f0:=cell_regrown c0;have f3:=cell_regrown c3;have f2:=cell_regrown c2;have e0:=cell_regrown d0;have e1:=cell_regrown d1;have e2:=cell_regrown d2;have e3:=cell_regrown d3;have e4:=cell_regrown d4;have ba:Hid (Q<wr.heap.size/\g<wr.heap.size):=hid ⟨by have:=aL.out;omega,World.block_lt_of_cell? _ _ c1⟩;have C0:=hid c0;have C1:=hid c1;repeat (first|go_skip|go_guarded|go_step|go_upon)
   clear f0 f3 f2 e0 e1 e2 e3 e4;have bD:Q<wr.heap.size:=ba.out.1;have bX:g<wr.heap.size:=ba.out.2;have cg:g2<wr.heap.size:=World.block_lt_of_cell? _ _ d0;have bj:IntKind.i64.wrap (q:Int)=q:=by rw[IntKind.wrap_i64];omega
   go_region;have BR:Hid (Below wr.heap.size wr (wr.alloc (.cells #[.int .i64 ky,.int .i64 my,.int .i64 tm,.string V,.bool dr] 128)).drew):=hid ((Below.refl _ _).alloc (Nat.le_refl _) _).drew;have RR:Hid ((wr.alloc (.cells #[.int .i64 ky,.int .i64 my,.int .i64 tm,.string V,.bool dr] 128)).drew.heap[wr.heap.size]?=some (.cells #[.int .i64 ky,.int .i64 my,.int .i64 tm,.string V,.bool dr] 128 (0,0))):=hid (heap_alloc_new wr _);clear bD bX cg bj c0 c1 c2 c3 d0 d1 d2 d3 d4;generalize (wr.alloc (.cells #[.int .i64 ky,.int .i64 my,.int .i64 tm,.string V,.bool dr] 128)).drew=w6 at BR RR ⊢;obtain⟨b0,b1,b3⟩:w6.cell? ⟨wr.heap.size,0,none⟩=some (.int .i64 ky)/\w6.cell? ⟨wr.heap.size,1,none⟩=some (.int .i64 my)/\w6.cell? ⟨wr.heap.size,3,none⟩=some (.string V):=⟨by rw[cell_of_row _ _ 0 _ _ _ RR.out];rfl,by rw[cell_of_row _ _ 1 _ _ _ RR.out];rfl,by rw[cell_of_row _ _ 3 _ _ _ RR.out];rfl⟩;have s0:w6.cell? ⟨Q,0,none⟩=some (.slice (some ⟨g,o,none⟩) n cap):=(BR.out.cell (p:=⟨Q,0,none⟩) ba.out.1).trans C0.out;have s1:w6.cell? ⟨g,o+k*2,none⟩=some (.string X):=(BR.out.cell (p:=⟨g,o+k*2,none⟩) ba.out.2).trans C1.out;have B6:Hid (Below W.heap.size W w6):=hid (Below.trans HB.out (BR.out.mono bd));have O6:Hid (w6.ownsRow W.heap.size 45 4 u3 (treeK D.inos D.names k).length (nodesC (treeK D.inos D.names k))):=hid (owns_below HO.out BR.out);repeat (first|go_skip|go_guarded|go_step|go_upon)
   refine wp_region_noPanic ?_;with_reducible refine QT.region_pick (S:=fun w'=>w'.cell? ⟨wr.heap.size,0,none⟩=some (.int .i64 ky)/\w'.cell? ⟨wr.heap.size,1,none⟩=some (.int .i64 my)/\w'.cell? ⟨wr.heap.size,3,none⟩=some (.string V)/\w'.cell? ⟨Q,0,none⟩=some (.slice (some ⟨g,o,none⟩) n cap)/\w'.cell? ⟨g,o+k*2,none⟩=some (.string X)) [0,1,2,3,4,5,6,7,8,9,10,11,12,13,14,15] [16] 17 (by kernel_rfl) (by kernel_rfl) ?_ ?_ ?_
   ·exact fun _ _ _ _ _ h=>h
   ·exact⟨b0,b1,b3,s0,s1⟩
   intro _;simp only[QT.pick,List.filterMap_cons,List.filterMap_nil,List.getElem?_cons_succ,List.getElem?_cons_zero,List.drop_succ_cons,List.drop_zero];iterate 16 (refine QT.wpTake_cons _ (by rfl) (by intro w' ck;obtain⟨y0,y1,y2,y3,y4⟩:=ck;go_simp;first|done|rfl) ?_;try simp only[Act.put,List.setIfInBounds_toArray,List.set_cons_zero,List.set_cons_succ])
   refine QT.wpTake_nil ?_;intro K' hK;rw[if_pos (by rfl)];go_simp;have bA:Below w6.heap.size w6 (w6.alloc (.cells #[.string X,.int .i64 ky,.string V,.int .i64 my] 45)).drew:=((Below.refl _ _).alloc (Nat.le_refl _) _).drew;have bc:wr.heap.size<w6.heap.size:=(Array.getElem?_eq_some_iff.1 RR.out).1;have bl:Q<w6.heap.size/\g<w6.heap.size:=by have:=BR.out.size;have:=ba.out;omega
   refine hK.out _ _ ⟨(bA.cell (p:=⟨wr.heap.size,0,none⟩) bc).trans b0,(bA.cell (p:=⟨wr.heap.size,1,none⟩) bc).trans b1,(bA.cell (p:=⟨wr.heap.size,3,none⟩) bc).trans b3,(bA.cell (p:=⟨Q,0,none⟩) bl.1).trans s0,(bA.cell (p:=⟨g,o+k*2,none⟩) bl.2).trans s1⟩ ?_;clear hK K';refine QT.wpDo_nil ?_;try simp only[Act.put,List.setIfInBounds_toArray,List.set_cons_zero,List.set_cons_succ]
   have B7:Hid (Below W.heap.size W (w6.alloc (.cells #[.string X,.int .i64 ky,.string V,.int .i64 my] 45)).drew):=hid (Below.trans B6.out (bA.mono B6.out.size));have O7:Hid ((w6.alloc (.cells #[.string X,.int .i64 ky,.string V,.int .i64 my] 45)).drew.ownsRow W.heap.size 45 4 u3 (treeK D.inos D.names k).length (nodesC (treeK D.inos D.names k))):=hid (O6.out.alloc _);have N7:Hid (∀(j:Nat) (u:Value),(ndCells y)[j]?=some u->(w6.alloc (.cells #[.string X,.int .i64 ky,.string V,.int .i64 my] 45)).drew.cell? ((⟨w6.heap.size,0,none⟩:Addr).add j)=some u):=hid (aX.out w6);have cz:W.heap.size<=w6.heap.size:=B6.out.size;clear bA bc bl b0 b1 b3 s0 s1;generalize (w6.alloc (.cells #[.string X,.int .i64 ky,.string V,.int .i64 my] 45)).drew=w7 at B7 O7 N7 ⊢;have bL:=B7.out.size
   repeat (first
    | (at_builtin;refine wpList_append_own _ rfl _ _ 22 rfl W.heap.size 45 i0 (ndVal zeroN) 4 48 Tryz.underlying22 aY aV aS aW rfl (by decide) _ _ _ rfl O7.out ⟨w6.heap.size,0,none⟩ 1 1 (ndCells y) rfl rfl N7.out (nd_one _) (by have:=aT.out;unfold maxLen;omega) (by have:=aT.out;omega) (by omega) ?_;intro v' w8 ac ag av;have br:=hid ac;have bg:Hid (Below W.heap.size W w8):=hid (B7.out.grown ag bL (fun j hj=>(O7.out.lt j hj).1));clear ac ag av)
    | go_skip|go_guarded|go_step|go_upon)
   refine NoPanic.normal ?_;repeat (first|go_skip|go_guarded|go_step|go_upon)
   refine⟨⟨k+1,by go_num,by omega,?_,bg.out⟩,by simp[RowKit.intOf];omega⟩;rw[HK.out,length_append,List.length_singleton,nodes_snoc];exact br.out
  ·have aM:¬(k:Int)<n:=by omega
   have HK:Hid (treeD D=treeK D.inos D.names k):=hid (by unfold treeD treeK;rw[List.take_of_length_le (by rw[HN.out];omega)]);clear ab al ak;repeat (first|go_skip|go_guarded|go_step|go_upon)
   go_ret;exact⟨_,rfl,by rw[HK.out];exact HO.out,HB.out⟩
end RK
end
section
open Go.RowKit Go.Lib Go.BigFrame
namespace RK
open OM TP TM DP DM FP DG TG TR
theorem out_q{W:World}{Q:Nat}{W':World}(h:Out (fun k=>k=Q) W W')(j:Nat)(u:Value):Out (fun k=>k=Q) W (W'.setCell ⟨Q,j,none⟩ u):=h.setCell (p:=⟨Q,j,none⟩) (fun _=>rfl) u
theorem RX.turn{w W W':World}{T:Nat->Prop}{Q m m':Nat}{D D':Dk}{x x':RP}(h:RX w T W Q m D x)(ho:Out (fun k=>k=Q) W W')(am:W'.heap[Q]?=some (.cells (rdC D' x') 57 (0,0)))
  (hn:LayR W T x'.an D'.names) (hs:LayR W T x'.as_ D'.safe)
  (hl:W.ownsRow 0 53 1 x'.vl D'.later.length (lsC D'.later x'.ls)) (hll:x'.ls.length=D'.later.length) (hli:∀ g,x'.vl.ownBlock=some g->T g) (he:∀(j:Nat) a l,x'.ls[j]?=some a->D'.later[j]?=some l->LayR W T a.1 l)
  (hi:W.ownsRow 0 128 5 x'.vi D'.inos.length (risC D'.inos)) (hii:∀ g,x'.vi.ownBlock=some g->T g)
  (ht:W.ownsRow 0 75 3 x'.vt D'.trace.length (didsC D'.trace)) (hti:∀ g,x'.vt.ownBlock=some g->T g)
  (hf:FArg w x'.af D'.fates) (hee:EdArg w x'.ae x'.ce D'.edits x'.evs) (hep:∀ e∈D'.edits,e.path.length<=maxLen) (hnum:Num m' D'):RX w T W' Q m' D' x':=by
 have hk:∀ k,T k->W'.heap[k]?=W.heap[k]?:=fun k hk=>ho.block k (h.lt k hk) (fun e=>h.np (e ▸ hk))
 exact⟨am,hn.same ho.size (fun g hg _=>hk g hg),hs.same ho.size (fun g hg _=>hk g hg),own_same hl (fun g hg=>hk g (hli g hg)),hll,hli,(fun j a l h1 h2=>(he j a l h1 h2).same ho.size (fun g hg _=>hk g hg)),own_same hi (fun g hg=>hk g (hii g hg)),hii,own_same ht (fun g hg=>hk g (hti g hg)),hti,hf,hee,hep,h.lo,h.ql,(fun k hk2=>Nat.lt_of_lt_of_le (h.lt k hk2) ho.size),h.np,
  ((Out.of_below h.bel).then ho (fun j _ hj=>by rw[show j=Q from hj];exact h.ql)).below (fun k hk _ h2=>by omega) (Nat.le_refl _),hnum⟩
theorem raft_q{w W W':World}{T:Nat->Prop}{Q m:Nat}{D:Dk}{x:RP}(h:RX w T W' Q m D x)(ho:Out (fun k=>k=Q) W W'):RAft w W T Q m D W':=⟨T,⟨x,h⟩,fun _ h=>.inl h,ho.mono (fun _ _ h=>.inr h)⟩
theorem kboot_any(w W:World)(T:Nat->Prop)(Q m:Nat)(D:Dk)(h:RS w W T Q m D)(fs:List Fate)(af:Option Addr)(cf:Nat)(es:List Edit)(vs:List Ev)(ae:Option Addr)(ce:Nat)(hf:FArg w af fs)(he:EdArg w ae ce es vs)(hel:es.length<=1048576)(hep:∀ e∈es,e.path.length<=maxLen) :
  Calls Tryz.prog 18 #[.pointer (some ⟨Q,0,none⟩),.slice af fs.length cf,.slice ae es.length ce] W fun r W'=>r=.returned (.tuple #[])/\RAft w W T Q m (bootD D fs es) W':=by
 obtain⟨x,hx⟩:=h;have hr:=hx.row;have HX:=hid hx;have hn:=hid (num_bootE hx.num fs he hel hep);have bZ:=hid hf;have bK:=hid he;have bM:=hid hep;unfold rdC at hr;have HR:=hid hr;obtain⟨c0,c1,c2,c3,c4,c5,c6,c7,c8,c9,co⟩:=row10 hr;obtain⟨nf,bs⟩:∃ n,fs.length=n:=⟨_,rfl⟩;obtain⟨ne,bw⟩:∃ n,es.length=n:=⟨_,rfl⟩;have bJ:=hid bs;have ca:=hid bw;have ab:=(Array.getElem?_eq_some_iff.1 hr).1;rw[bs,bw];clear hx hr hf he hel hep bs bw c0 c1 c2 c3 c6;go_enter Tryz.func18,Tryz.ntmps18;repeat (first|go_skip|go_guarded|go_step|go_upon)
 go_end0
 have ho:Out (fun k=>k=Q) W (((((W.setCell ⟨Q,4,none⟩ (.bool false)).setCell ⟨Q,5,none⟩ (.int .i64 0)).setCell ⟨Q,7,none⟩ (.slice none 0 0)).setCell ⟨Q,8,none⟩ (.slice af nf cf)).setCell ⟨Q,9,none⟩ (.slice ae ne ce)) :=
  out_q (out_q (out_q (out_q (out_q (Out.refl _ W) _ _) _ _) _ _) _ _) _ _
 have am:=row_set (j:=9) (row_set (j:=8) (row_set (j:=7) (row_set (j:=5) (row_set (j:=4) HR.out (.bool false)) (.int .i64 0)) (.slice none 0 0)) (.slice af nf cf)) (.slice ae ne ce);refine⟨rfl,raft_q (x:={ x with vt:=.slice none 0 0,af:=af,cf:=cf,ae:=ae,ce:=ce,evs:=vs }) (HX.out.turn ho ?_ HX.out.names HX.out.safe HX.out.later HX.out.llen HX.out.lin HX.out.each HX.out.inos HX.out.iin (World.ownsRow_nil _ _ _ _) (fun g hg=>by cases hg) bZ.out bK.out bM.out hn.out) ho⟩;rw[am];unfold rdC;rw[<- bJ.out,← ca.out];rfl
end RK
end
section
open Go.RowKit Go.Lib Go.BigFrame
namespace RK
open OM TP TM DP DM FP DG TG TR
theorem infoRE:(Tryz.prog.info? 130).map (fun i=>(i.zero,i.size,i.bytes))=some (some (.agg #[.string ⟨#[]⟩,.int .i64 0]),2,24):=by kernel_rfl
def RePost(l:List Nd)(w:World)(r:Ending)(w':World):Prop :=
 ∃ v,r=.returned v/\w'.ownsRow w.heap.size 130 2 v l.length (resC l)/\Below w.heap.size w w'
theorem re_new(W:World)(e:Nd)(X:Value)(kd:Int)(hX:txt e.path=X)(hk:e.kind=kd):∀(j:Nat) (u:Value),(reC e)[j]?=some u->(W.alloc (.cells #[X,.int .i64 kd] 130)).cell? ((⟨W.heap.size,0,none⟩:Addr).add j)=some u:=by
 subst hX hk;obtain⟨c0,c1,_⟩:=row2 (heap_alloc_new W (.cells #[txt e.path,.int .i64 e.kind] 130));intro j u hu;have e1:(⟨W.heap.size,0,none⟩:Addr).add j=⟨W.heap.size,j,none⟩:=by simp[Addr.add];omega
 rw[e1]
 match j with
 | 0=>exact c0.trans hu
 | 1=>exact c1.trans hu
 | j+2=>cases hu
def delK(ns:List Nd)(p:List UInt8)(k:Nat):List Nd:=delE (ns.take k) p
theorem delK_yes{ns:List Nd}{p:List UInt8}{k:Nat}{e:Nd}(hx:ns[k]?=some e)(h:e.path≠p):delK ns p (k+1)=delK ns p k++[e]:=by
 unfold delK delE;rw[List.take_add_one,hx,Option.toList_some,List.filter_append];simp[h]
theorem delK_no{ns:List Nd}{p:List UInt8}{k:Nat}{e:Nd}(hx:ns[k]?=some e)(h:e.path=p):delK ns p (k+1)=delK ns p k:=by
 unfold delK delE;rw[List.take_add_one,hx,Option.toList_some,List.filter_append];simp[h]
theorem delK_len(ns:List Nd)(p:List UInt8)(k:Nat):(delK ns p k).length<=k:=by
 unfold delK delE;exact Nat.le_trans (List.length_filter_le _ _) (by rw[List.length_take];omega)
theorem kwithout_any(w W:World)(T:Nat->Prop)(Q m:Nat)(D:Dk)(p:List UInt8)(h:RS w W T Q m D)(hl:D.names.length<=1000) :
  Calls Tryz.prog 139 #[.pointer (some ⟨Q,0,none⟩),txt p] W (RePost (delE D.names p) W):=by
 obtain⟨i0,aY,aV,aS,aW⟩:=info_parts infoRE;obtain⟨x,hx⟩:=h;obtain⟨ts,aR⟩:∃ ts,D.names=ts:=⟨_,rfl⟩;obtain⟨n,hn⟩:∃ n,ts.length=n:=⟨_,rfl⟩;have hr:=hx.row;have hL:=hx.names;have ab:=(Array.getElem?_eq_some_iff.1 hr).1;unfold rdC at hr;rw[aR]at hr hL hl ⊢;rw[hn]at hr hl;obtain⟨c0,-⟩:=row10 hr;obtain⟨ao,ap⟩:∃ a,x.an=a:=⟨_,rfl⟩;obtain⟨cap,ah⟩:∃ a,x.cn=a:=⟨_,rfl⟩;rw[ap,ah]at c0;rw[ap]at hL;have HN:=hid hn;have HL:=hid hL;have HQ:=hid ab;have HC:=hid c0;have bV:(n:Int)<=9223372036854775807:=by omega
 obtain⟨S,hS,aD⟩:=txt_of p;have HS:=hid aD;rw[hS];clear hx hr hL ab aR hn ap ah hS aD c0;go_enter Tryz.func139,Tryz.ntmps139;repeat (first|go_skip|go_guarded|go_step|go_upon)
 go_loopw [5,6] (fun s3 s4 wr=>∃ k:Nat,s4=.int .i64 k/\k<=n/\wr.ownsRow W.heap.size 130 2 s3 (delK ts p k).length (resC (delK ts p k))/\Below W.heap.size W wr) (fun _ s4 _=>n-(RowKit.intOf s4).toNat)
 case atStart=>exact⟨0,rfl,Nat.zero_le _,World.ownsRow_nil _ _ _ _,Below.refl _ _⟩
 case round =>
  obtain⟨k,rfl,hk,ho,hb⟩:=hrel;have HO:=hid ho;have HB:=hid hb;have bd:=hb.size;have aT:=hid (delK_len ts p k);have aO:=HL.out.below hb;have c0:=(hb.cell (p:=⟨Q,0,none⟩) HQ.out).trans HC.out;have bD:Q<wr.heap.size:=Nat.lt_of_lt_of_le HQ.out bd;clear ho hb;by_cases ab:k<n
  ·have aM:(k:Int)<n:=by omega
   obtain⟨g,o,rfl,hg,_,_,hc⟩:=aO (by have:=HN.out;omega);obtain⟨e,hx⟩:∃ x,ts[k]?=some x:=⟨_,getElem?_eq_getElem (by rw[HN.out];exact ab)⟩;obtain⟨c1,c2⟩:=hc k e hx;obtain⟨X,hX,az⟩:=txt_of e.path;obtain⟨kd,aC⟩:∃ z,e.kind=z:=⟨_,rfl⟩;rw[hX]at c1;rw[aC]at c2;by_cases he:e.path=p
   ·have hb:(X.toList==S.toList)=true:=by rw[toList_data,toList_data,az,HS.out,he];simp
    have HK:=hid (delK_no hx he);clear hc hx hX az he aO ab aC;repeat (first|go_skip|go_guarded|go_step|go_upon)
    exact⟨⟨k+1,by go_num,by omega,by rw[HK.out];exact HO.out,HB.out⟩,by simp[RowKit.intOf];omega⟩
   ·have hb:(X.toList==S.toList)=false:=by rw[toList_data,toList_data,az,HS.out];simpa using he
    have HK:=hid (delK_yes hx he);have aX:Hid (∀(W:World) (j:Nat) (u:Value),(reC e)[j]?=some u->(W.alloc (.cells #[.string X,.int .i64 kd] 130)).cell? ((⟨W.heap.size,0,none⟩:Addr).add j)=some u):=hid (fun W=>re_new W e _ _ hX aC);clear hc hx hX az he aO ab aC
    repeat (first
     | (at_builtin;refine wpList_append_own _ rfl _ _ 53 rfl W.heap.size 130 i0 (.agg #[.string ⟨#[]⟩,.int .i64 0]) 2 24 Tryz.underlying53 aY aV aS aW rfl (by decide) _ _ _ rfl (HO.out.alloc _) ⟨wr.heap.size,0,none⟩ 1 1 (reC e) rfl rfl (aX.out wr) (re_one _) (by have:=aT.out;unfold maxLen;omega) (by have:=aT.out;omega) (by simp;omega) ?_;intro v' w8 ac ag av;have br:=hid ac;have bg:Hid (Below W.heap.size W w8):=hid ((HB.out.alloc bd _).grown ag (by simp;omega) (fun j hj=>(HO.out.lt j hj).1));clear ac ag av)
     | go_skip|go_guarded|go_step|go_upon)
    refine⟨⟨k+1,by go_num,by omega,?_,bg.out⟩,by simp[RowKit.intOf];omega⟩;rw[HK.out,length_append,List.length_singleton,res_snoc];exact br.out
  ·have aM:¬(k:Int)<n:=by omega
   have HK:Hid (delE ts p=delK ts p k):=hid (by unfold delK;rw[List.take_of_length_le (by rw[HN.out];omega)]);clear ab aO;repeat (first|go_skip|go_guarded|go_step|go_upon)
   go_ret;exact⟨_,rfl,by rw[HK.out];exact HO.out,HB.out⟩
end RK
end
section
open Go.RowKit Go.Lib Go.BigFrame
namespace RK
open OM TP TM DP DM FP DG TG TR
theorem infoRI:(Tryz.prog.info? 128).map (fun i=>(i.zero,i.size,i.bytes))=some (some (.agg #[.int .i64 0,.int .i64 0,.int .i64 0,.string ⟨#[]⟩,.bool false]),5,48):=by kernel_rfl
theorem old_row{W:World}{b:Nat}{o o2:Obj}(h:W.heap[b]?=some o2):(W.alloc o).heap[b]?=some o2:=(Below.heap_alloc W o b (Array.getElem?_eq_some_iff.1 h).1).trans h
theorem copy_after{W w5:World}{n size:Nat}{box:Array Value}{t u:TypeId}{v:Value}{xs:List Value}(au:w5.ownsRow (W.heap.size+1) t size v (0+n) ([]++xs))(hgrow:((W.alloc (.cells box u)).alloc (.cells #[] t)).grownBy w5 (Value.slice (some ⟨W.heap.size+1,0,none⟩) 0 0).ownBlock)(h0:0<n) :
  ∃(g c:Nat) (aj:Array Value),v=.slice (some ⟨g,0,none⟩) n c/\w5.heap[g]?=some (.cells aj t (0,0))/\W.heap.size<g/\aj.size=c*size/\aj.toList.take (n*size)=xs/\(n<=c/\c<=maxLen)/\Below W.heap.size W w5/\w5.heap[W.heap.size]?=some (.cells box u (0,0)):=by
 rw[Nat.zero_add,List.nil_append]at au
 have hb:Below W.heap.size W w5:=(((Below.refl W.heap.size W).alloc (Nat.le_refl _) (.cells box u)).alloc (by simp) (.cells #[] t)).grown hgrow (by simp;omega) (fun j hj=>by
  have:j=W.heap.size+1:=by
   have h2:(some (W.heap.size+1):Option Nat)=some j:=hj;injection h2 with h2;exact h2.symm
  omega)
 have bv:=(hgrow.block W.heap.size (by simp;omega) (fun e=>by
  have h2:(some W.heap.size:Option Nat)=some (W.heap.size+1):=e;injection h2 with h2
  omega)).trans (old_row (heap_alloc_new W (.cells box u)))
 rcases au.2 with ⟨_,h1⟩|⟨g,c,aj,h1,cC,h2,cq,cp,h3,h4⟩
 ·omega
 ·exact⟨g,c,aj,h1,h2,by omega,h3,h4,⟨cq,cp⟩,hb,bv⟩
theorem num_inos{m:Nat}{D:Dk}(h:Num m D)(hm:m<=1000):D.inos.length*48<=140737488355328:=by
 have:=h.inos;omega
theorem there{W:World}{g:Nat}{aj:Array Value}{t:TypeId}(h:W.heap[g]?=some (.cells aj t (0,0))){j:Nat}(hj:j<aj.size):∃ z,W.cell? ⟨g,j,none⟩=some z :=
 ⟨aj[j],by rw[cell_of_row W g j _ _ _ h];exact Array.getElem?_eq_getElem hj⟩
theorem ris_set(I:List Ino)(q:Nat)(i:Ino)(hq:q<I.length)(j:Nat):(risC (I.set q i))[j]?=if q*5<=j/\j<q*5+5 then(riC i)[j-q*5]? else(risC I)[j]?:=by
 by_cases hj:j<I.length*5
 ·have ha:j / 5<I.length:=by omega
  have e:j=j / 5*5+j % 5:=by omega
  by_cases hqa:q=j / 5
  ·rw[if_pos (by omega)];have:=ris_at (I.set q i) q i (j % 5) (List.getElem?_set_self hq) (by omega);rw[show q*5+j % 5=j by omega]at this;rw[this];congr 1;omega
  ·rw[if_neg (by omega)];have h1:=ris_at (I.set q i) (j / 5) (I[j / 5]) (j % 5) (by rw[List.getElem?_set_ne hqa];exact getElem?_eq_getElem ha) (by omega);have h2:=ris_at I (j / 5) (I[j / 5]) (j % 5) (getElem?_eq_getElem ha) (by omega);rw[<- e]at h1 h2;rw[h1,h2]
 ·rw[if_neg (by omega),getElem?_eq_none (by rw[ris_len,length_set];omega),getElem?_eq_none (by rw[ris_len];omega)]
theorem five_laid(aj:Array Value)(o:Nat)(a b c d e:Value)(ho:o+5<=aj.size)(j:Nat) :
  (((((aj.setIfInBounds o a).setIfInBounds (o+1) b).setIfInBounds (o+2) c).setIfInBounds (o+3) d).setIfInBounds (o+4) e)[j]?=if o<=j/\j<o+5 then [a,b,c,d,e][j-o]? else aj[j]?:=by
 simp only[Array.getElem?_setIfInBounds,Array.size_setIfInBounds];by_cases h:o<=j/\j<o+5
 ·rw[if_pos h];rcases (by omega:j=o\/j=o+1\/j=o+2\/j=o+3\/j=o+4)with rfl|rfl|rfl|rfl|rfl
  ·simp;omega
  ·simp[show o+1<aj.size by omega]
  ·simp[show o+2<aj.size by omega]
  ·simp[show o+3<aj.size by omega]
  ·simp[show o+4<aj.size by omega]
 ·rw[if_neg h,if_neg (by omega),if_neg (by omega),if_neg (by omega),if_neg (by omega),if_neg (by omega)]
theorem set_owns{W:World}{B g c q:Nat}{aj:Array Value}{I:List Ino}{i:Ino}(h:W.heap[g]?=some (.cells (((((aj.setIfInBounds (q*5) (.int .i64 i.kind)).setIfInBounds (q*5+1) (.int .i64 i.mode)).setIfInBounds (q*5+2) (.int .i64 i.time)).setIfInBounds (q*5+3) (txt i.data)).setIfInBounds (q*5+4) (.bool i.dirty)) 128 (0,0)))
  (hB:B<=g) (hs:aj.size=c*5) (hl:I.length<=c) (hc:c<=maxLen) (ht:aj.toList.take (I.length*5)=risC I) (hq:q<I.length):W.ownsRow B 128 5 (.slice (some ⟨g,0,none⟩) I.length c) I.length (risC (I.set q i)):=by
 refine⟨by rw[ris_len,length_set],.inr ⟨g,c,_,rfl,hB,h,hl,hc,by simp[hs],?_⟩⟩;apply List.ext_getElem?;intro j;rw[ris_set I q i hq j];by_cases hj:j<I.length*5
 ·rw[List.getElem?_take_of_lt hj,Array.getElem?_toList,five_laid _ _ _ _ _ _ _ (by omega)];split
  ·rfl
  ·rw[<- Array.getElem?_toList,← ht,List.getElem?_take_of_lt hj]
 ·rw[getElem?_eq_none (by rw[List.length_take];omega),if_neg (by omega),getElem?_eq_none (by rw[ris_len];omega)]
theorem RX.newInos{w W W':World}{T:Nat->Prop}{Q m m':Nat}{D:Dk}{x:RP}{I:List Ino}{v:Value}(h:RX w T W Q m D x)(ho:Out (fun k=>k=Q) W W')(am:W'.heap[Q]?=some (.cells (rdC { D with inos:=I } { x with vi:=v }) 57 (0,0)))
  (hi:W'.ownsRow 0 128 5 v I.length (risC I)) (hgi:∀ g,v.ownBlock=some g->W.heap.size<=g/\g<W'.heap.size) (hnum:Num m' { D with inos:=I }):RAft w W T Q m' { D with inos:=I } W':=by
 have hk:∀ k,T k->W'.heap[k]?=W.heap[k]?:=fun k hk=>ho.block k (h.lt k hk) (fun e=>h.np (e ▸ hk));have hQ:=(Array.getElem?_eq_some_iff.1 h.row).1;refine⟨fun k=>T k\/v.ownBlock=some k,⟨{ x with vi:=v },⟨am,(h.names.same ho.size (fun g hg _=>hk g hg)).sup (fun _=>.inl),(h.safe.same ho.size (fun g hg _=>hk g hg)).sup (fun _=>.inl),own_same h.later (fun g hg=>hk g (h.lin g hg)),h.llen,(fun g hg=>.inl (h.lin g hg)),(fun j a l h1 h2=>((h.each j a l h1 h2).same ho.size (fun g hg _=>hk g hg)).sup (fun _=>.inl)),hi,(fun g hg=>.inr hg),own_same h.trace (fun g hg=>hk g (h.tin g hg)),(fun g hg=>.inl (h.tin g hg)),h.fates,h.edits,h.epath,fun k hk2=>?_,h.ql,fun k hk2=>?_,?_,?_,hnum⟩⟩,fun k hk2=>?_,ho.mono (fun _ _ h=>.inr h)⟩
 ·rcases hk2 with h1|h1
  ·exact h.lo k h1
  ·exact Nat.le_trans h.bel.size (hgi k h1).1
 ·rcases hk2 with h1|h1
  ·exact Nat.lt_of_lt_of_le (h.lt k h1) ho.size
  ·exact(hgi k h1).2
 ·rintro (h1|h1)
  ·exact h.np h1
  ·have:=(hgi Q h1).1;omega
 ·exact((Out.of_below h.bel).then ho (fun j _ hj=>by rw[show j=Q from hj];exact h.ql)).below (fun k hk _ h2=>by omega) (Nat.le_refl _)
 ·rcases hk2 with h1|h1
  ·exact .inl h1
  ·exact .inr (hgi k h1).1
theorem kset_any(w W:World)(T:Nat->Prop)(Q m:Nat)(D:Dk)(k:Nat)(i:Ino)(h:RS w W T Q m D)(hm:m<=1000)(h1:1<=k)(h2:k<=D.inos.length) :
  Calls Tryz.prog 135 #[.pointer (some ⟨Q,0,none⟩),.int .i64 k,riV i] W fun r W'=>r=.returned (.tuple #[])/\RAft w W T Q m { D with inos:=D.inos.set (k-1) i } W':=by
 obtain⟨i0,aY,aV,aS,aW⟩:=info_parts infoRI;obtain⟨x,hx⟩:=h;have hr:=hx.row;have HX:=hid hx;have ab:=(Array.getElem?_eq_some_iff.1 hr).1;have aq:=hx.inos;have bN:=num_inos hx.num hm;unfold rdC at hr;have HR:=hid hr;obtain⟨vi,ay⟩:∃ v,x.vi=v:=⟨_,rfl⟩;rw[ay]at hr aq;obtain⟨ai,ci,rfl,aN⟩:=owns_view aq;obtain⟨g,rfl,hg,_,bz⟩:=aN (by omega);obtain⟨n,hn⟩:∃ n,D.inos.length=n:=⟨_,rfl⟩;rw[hn]at hr aq h2 bN bz;obtain⟨-,-,-,c3,-,-,-,-,-,-,cf⟩:=row10 hr;have HN:=hid hn;obtain⟨V,hV,_⟩:=txt_of i.data;have b1:Below W.heap.size W (W.alloc (.cells #[.int .i64 i.kind,.int .i64 i.mode,.int .i64 i.time,.string V,.bool i.dirty] 128)):=(Below.refl _ _).alloc (Nat.le_refl _) _;have B0:Hid (Below W.heap.size W ((W.alloc (.cells #[.int .i64 i.kind,.int .i64 i.mode,.int .i64 i.time,.string V,.bool i.dirty] 128)).alloc (.cells #[] 128))):=hid (b1.alloc (by simp) _);have b9:(risC D.inos).length=n*5:=by rw[ris_len,hn]
 have aX:Hid (∀(j:Nat) (u:Value),(risC D.inos)[j]?=some u->((W.alloc (.cells #[.int .i64 i.kind,.int .i64 i.mode,.int .i64 i.time,.string V,.bool i.dirty] 128)).alloc (.cells #[] 128)).cell? ((⟨g,0,none⟩:Addr).add j)=some u):=hid (fun j u hu=>by
  have hj:=(List.getElem?_eq_some_iff.1 hu).1;have e1:(⟨g,0,none⟩:Addr).add j=⟨g,j,none⟩:=by simp[Addr.add];omega
  rw[e1]
  exact(B0.out.cell (p:=⟨g,j,none⟩) hg).trans ((bz j (by omega)).trans hu))
 have bY:=hid b9;have cv:=hid (ris_one D.inos)
 have cm:Hid (((W.alloc (.cells #[.int .i64 i.kind,.int .i64 i.mode,.int .i64 i.time,.string V,.bool i.dirty] 128)).alloc (.cells #[] 128)).ownsRow (W.heap.size+1) 128 5 (.slice (some ⟨W.heap.size+1,0,none⟩) 0 0) 0 []):=hid (by
  have:=World.ownsRow_made (base:=W.heap.size+1) (e:=128) (size:=5) (W.alloc (.cells #[.int .i64 i.kind,.int .i64 i.mode,.int .i64 i.time,.string V,.bool i.dirty] 128)) #[] 0 (by simp) (Nat.zero_le _) rfl;rw[World.size_alloc]at this
  exact this)
 unfold riV;rw[hV];clear hx hr aq ay aN hn bz b9;go_enter Tryz.func135,Tryz.ntmps135;repeat (first|(at_builtin;refine wpList_append_own _ rfl _ _ 55 rfl (W.heap.size+1) 128 i0 _ 5 48 Tryz.underlying55 aY aV aS aW rfl (by decide) _ _ _ rfl cm.out ⟨g,0,none⟩ n ci (risC D.inos) rfl bY.out aX.out cv.out (by unfold maxLen;omega) (by omega) (by simp) ?_;intro v' w5 ac ax aZ;obtain⟨g5,c5,bo,bI,aa,aP,aH,aU,aJ,bb,aA⟩:=copy_after ac ax (by omega);subst bI;have aw:=hid aa;have bR:=hid aH;have cd:=hid aU;have b5:=hid bb;have aK:=hid aP;have b6:=hid aJ;have bm:=aJ.1;obtain⟨q0,q1,q2,q3,q4⟩:=row5 aA;have cA:=(bb.cell (p:=⟨Q,3,none⟩) ab).trans c3;have co:∀ j,w5.frozen? ⟨Q,j,none⟩=false:=fun j=>(bb.frozen (p:=⟨Q,j,none⟩) ab).trans (cf j);have cy:∀ j,w5.frozen? ⟨g5,j,none⟩=false:=fun j=>frozen_of_row w5 g5 j _ _ aa;have bS:(k-1)*5+5<=bo.size:=(by rw[aH];omega);obtain⟨z0,bP⟩:=there aa (j:=(k-1)*5) (by omega);obtain⟨z1,cw⟩:=there aa (j:=(k-1)*5+1) (by omega);obtain⟨z2,bO⟩:=there aa (j:=(k-1)*5+2) (by omega);obtain⟨z3,bU⟩:=there aa (j:=(k-1)*5+3) (by omega);obtain⟨z4,cr⟩:=there aa (j:=(k-1)*5+4) (by omega);have ar:g5≠Q:=(by omega);clear ac ax aZ bb aa aH aU aJ bm aP aA bS)|go_skip|go_guarded|go_step|go_upon)
 go_end0
 refine⟨rfl,?_⟩;have bT:=(Array.getElem?_eq_some_iff.1 aw.out).1;have cu:Out (fun k=>k=Q) W w5:=(Out.refl _ W).thenBelow b5.out
 have ho:Out (fun k=>k=Q) W ((((((w5.setCell ⟨g5,(k-1)*5,none⟩ (.int .i64 i.kind)).setCell ⟨g5,(k-1)*5+1,none⟩ (.int .i64 i.mode)).setCell ⟨g5,(k-1)*5+2,none⟩ (.int .i64 i.time)).setCell ⟨g5,(k-1)*5+3,none⟩ (.string V)).setCell ⟨g5,(k-1)*5+4,none⟩ (.bool i.dirty)).setCell ⟨Q,3,none⟩ (.slice (some ⟨g5,0,none⟩) n c5)) :=
  out_q (((((cu.setCell (p:=⟨g5,(k-1)*5,none⟩) (fun h=>absurd h (by have:=aK.out;show ¬ g5<_;omega)) _).setCell (p:=⟨g5,(k-1)*5+1,none⟩) (fun h=>absurd h (by have:=aK.out;show ¬ g5<_;omega)) _).setCell (p:=⟨g5,(k-1)*5+2,none⟩) (fun h=>absurd h (by have:=aK.out;show ¬ g5<_;omega)) _).setCell (p:=⟨g5,(k-1)*5+3,none⟩) (fun h=>absurd h (by have:=aK.out;show ¬ g5<_;omega)) _).setCell (p:=⟨g5,(k-1)*5+4,none⟩) (fun h=>absurd h (by have:=aK.out;show ¬ g5<_;omega)) _) _ _
 have ct:=(b5.out.block Q ab).trans HR.out;have am:=row_set (j:=3) ((set_other _ g5 ((k-1)*5+4) Q (.bool i.dirty) (fun e=>ar e.symm)).trans ((set_other _ g5 ((k-1)*5+3) Q (.string V) (fun e=>ar e.symm)).trans ((set_other _ g5 ((k-1)*5+2) Q (.int .i64 i.time) (fun e=>ar e.symm)).trans ((set_other _ g5 ((k-1)*5+1) Q (.int .i64 i.mode) (fun e=>ar e.symm)).trans ((set_other _ g5 ((k-1)*5) Q (.int .i64 i.kind) (fun e=>ar e.symm)).trans ct))))) (.slice (some ⟨g5,0,none⟩) n c5);have bC:=(set_other _ Q 3 g5 (.slice (some ⟨g5,0,none⟩) n c5) ar).trans (row_set (j:=(k-1)*5+4) (row_set (j:=(k-1)*5+3) (row_set (j:=(k-1)*5+2) (row_set (j:=(k-1)*5+1) (row_set (j:=(k-1)*5) aw.out (.int .i64 i.kind)) (.int .i64 i.mode)) (.int .i64 i.time)) (.string V)) (.bool i.dirty));rw[<- hV]at bC;have au:=set_owns (B:=0) (c:=c5) bC (Nat.zero_le _) bR.out (by rw[HN.out];exact b6.out.1) b6.out.2 (by rw[HN.out];exact cd.out) (by rw[HN.out];omega);rw[hV]at au;refine HX.out.newInos (I:=D.inos.set (k-1) i) (v:=.slice (some ⟨g5,0,none⟩) n c5) ho ?_ ?_ ?_ ?_
 ·rw[am];unfold rdC;rfl
 ·rw[length_set];rw[HN.out]at au ⊢;exact au
 ·intro g' cb
  have:g5=g':=by
   have h2:(some g5:Option Nat)=some g':=cb;injection h2
  subst this;have:=aK.out;have hz:=bT;simp only[set_size];exact⟨by omega,hz⟩
 ·have hn:=HX.out.num;exact⟨hn.clock,hn.trace,hn.later,by show(D.inos.set _ _).length<=_;rw[length_set];exact hn.inos,hn.edits,hn.path,hn.long⟩
end RK
end
end Go.Proofs.YtkmcjededpamnaaGreatDoor
