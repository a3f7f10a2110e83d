import Derived.Test.YtkmcjededpamnaaGreatDoorMg13
import Derived.Test.YtkmcjededpamnaaGreatDoorMg3
set_option linter.all false
set_option maxRecDepth 100000
set_option maxHeartbeats 0
namespace Go.Proofs.YtkmcjededpamnaaGreatDoor
open List(length_append set_cons_zero set_cons_succ setIfInBounds_toArray length_take drop_zero length_cons getElem?_append_right)
section
open Go.RowKit Go.Lib Go.BigFrame
namespace RK
open OM TP TM DP DM FP DG TG TR
theorem own_set{w:World}{B t size n c g:Nat}{xs:List Value}(h:w.ownsRow B t size (.slice (some ⟨g,0,none⟩) n c) n xs)(h0:0<n)(j:Nat)(u:Value):(w.setCell ⟨g,j,none⟩ u).ownsRow B t size (.slice (some ⟨g,0,none⟩) n c) n (xs.set j u):=by
 refine⟨by rw[List.length_set];exact h.1,?_⟩;rcases h.2 with ⟨_,h1⟩|⟨g',c',cg,h1,hb,h2,h3,h4,h5,h6⟩
 ·omega
 ·injection h1 with e1 _ e3;injection e1 with e1;injection e1 with e1 _ _;subst e1 e3;refine .inr ⟨g,c,cg.setIfInBounds j u,rfl,hb,row_set (j:=j) h2 u,h3,h4,by rw[Array.size_setIfInBounds];exact h5,?_⟩;rw[Array.toList_setIfInBounds,List.take_set,h6]
theorem own_cell{w:World}{B t size n c g:Nat}{xs:List Value}(h:w.ownsRow B t size (.slice (some ⟨g,0,none⟩) n c) n xs){j:Nat}{u:Value}(hu:xs[j]?=some u):w.cell? ⟨g,j,none⟩=some u/\w.frozen? ⟨g,j,none⟩=false:=by
 have hj:=(List.getElem?_eq_some_iff.1 hu).1;rcases h.2 with ⟨_,h1⟩|⟨g',c',cg,h1,hb,h2,h3,h4,h5,h6⟩
 ·rw[h.1,h1]at hj;omega
 ·injection h1 with e1 _ e3;injection e1 with e1;injection e1 with e1 _ _;subst e1 e3;refine⟨?_,frozen_of_row w g j _ _ h2⟩;rw[cell_of_row w g j _ _ _ h2,← Array.getElem?_toList,← hu,← h6,List.getElem?_take_of_lt (by rw[<- h.1];exact hj)]
theorem res_set:∀(L:List Nd) (a:Nat) (e:Nd),((resC L).set (a*2) (txt e.path)).set (a*2+1) (.int .i64 e.kind)=resC (L.set a e)
 | [],a,e=>by simp[resC]
 | x::L,0,e=>rfl
 | x::L,a+1,e=>by
  have ih:=res_set L a e;show(((txt x.path)::(.int .i64 x.kind)::resC L).set ((a+1)*2) _).set ((a+1)*2+1) _=(txt x.path)::(.int .i64 x.kind)::resC (L.set a e);rw[<- ih,show(a+1)*2=a*2+1+1 by omega];rfl
def posR(S:List Nd)(x:Nd):Nat->Nat
 | 0=>0
 | k+1=>if 0<NP.ordL ((S[k]?).getD x).path x.path then posR S x k else k+1
def insR(S:List Nd)(x:Nd):List Nd:=S.take (posR S x S.length)++x::S.drop (posR S x S.length)
def sortK(l:List Nd)(k:Nat):List Nd:=(l.take k).foldl insR []
theorem posR_le(S:List Nd)(x:Nd):∀ k,posR S x k<=k
 | 0=>Nat.le_refl _
 | k+1=>by
  unfold posR;split
  ·exact Nat.le_succ_of_le (posR_le S x k)
  ·exact Nat.le_refl _
theorem insR_len(S:List Nd)(x:Nd):(insR S x).length=S.length+1:=by
 have:=posR_le S x S.length;unfold insR;rw[length_append,length_cons,length_take,List.length_drop];omega
theorem sortK_succ{l:List Nd}{k:Nat}{x:Nd}(hx:l[k]?=some x):sortK l (k+1)=insR (sortK l k) x:=by
 unfold sortK;rw[List.take_add_one,hx,Option.toList_some,List.foldl_append];rfl
theorem fold_len:∀(l S:List Nd),(l.foldl insR S).length=S.length+l.length
 | [],S=>rfl
 | x::l,S=>by
  show(l.foldl insR (insR S x)).length=_;rw[fold_len l,insR_len,length_cons];omega
theorem sortK_len{l:List Nd}{k:Nat}(hk:k<=l.length):(sortK l k).length=k:=by
 unfold sortK;rw[fold_len,length_take];simp;omega
theorem insR_mem{S:List Nd}{x e:Nd}(h:e∈insR S x):e∈S\/e=x:=by
 unfold insR at h;rcases List.mem_append.1 h with h|h
 ·exact .inl (List.mem_of_mem_take h)
 ·rcases List.mem_cons.1 h with h|h
  ·exact .inr h
  ·exact .inl (List.mem_of_mem_drop h)
theorem fold_mem:∀(l S:List Nd) (e:Nd),e∈l.foldl insR S->e∈S\/e∈l
 | [],S,e,h=>.inl h
 | x::l,S,e,h=>by
  rcases fold_mem l (insR S x) e h with h|h
  ·rcases insR_mem h with h|h
   ·exact .inl h
   ·exact .inr (by rw[h];exact List.mem_cons_self ..)
  ·exact .inr (List.mem_cons_of_mem _ h)
theorem sortK_mem{l:List Nd}{k:Nat}{e:Nd}(h:e∈sortK l k):e∈l:=by
 rcases fold_mem _ _ e h with h|h
 ·cases h
 ·exact List.mem_of_mem_take h
def midL(S:List Nd)(y:Nd)(a:Nat):List Nd:=S.take a++y::S.drop a
theorem mid_end(S:List Nd)(x:Nd):midL S x S.length=S++[x]:=by unfold midL;rw[List.take_length,List.drop_length]
theorem mid_len{S:List Nd}{y:Nd}{a:Nat}(ha:a<=S.length):(midL S y a).length=S.length+1:=by
 unfold midL;rw[length_append,length_cons,length_take,List.length_drop];omega
theorem mid_at{S:List Nd}{y:Nd}{j:Nat}{e:Nd}(he:S[j]?=some e):(midL S y (j+1))[j]?=some e:=by
 have hj:=(List.getElem?_eq_some_iff.1 he).1;unfold midL;rw[List.getElem?_append_left (by rw[length_take];omega),List.getElem?_take_of_lt (by omega)];exact he
theorem mid_set{S:List Nd}{y e:Nd}{a:Nat}(ha:a<=S.length):(midL S y a).set a e=midL S e a:=by
 unfold midL;rw[List.set_append_right _ _ (by rw[length_take];omega),length_take,Nat.min_eq_left ha,Nat.sub_self];rfl
theorem mid_down{S:List Nd}{e:Nd}{j:Nat}(he:S[j]?=some e):midL S e (j+1)=midL S e j:=by
 have hj:=(List.getElem?_eq_some_iff.1 he).1;have dj:=(List.getElem?_eq_some_iff.1 he).2;unfold midL;rw[List.take_add_one,he,Option.toList_some,List.append_assoc,List.drop_eq_getElem_cons hj,dj];rfl
theorem ls_snoc{later:List (List Nd)}{ls:List (Option Addr×Nat)}(h:ls.length=later.length)(L:List Nd)(a:Option Addr×Nat):lsC (later++[L]) (ls++[a])=lsC later ls++[slV L a]:=by
 unfold lsC;rw[List.zipWith_append h.symm];rfl
def chgR(D:Dk)(L:List Nd):Dk:={ D with names:=L,later:=D.later++[L] }
theorem RX.newNames{w W W':World}{T:Nat->Prop}{Q m m':Nat}{D:Dk}{x:RP}{L:List Nd}{a:Option Addr}{c:Nat}{v:Value}(h:RX w T W Q m D x)(ho:Out (fun k=>k=Q\/x.vl.ownBlock=some k) W W')
  (au:W'.heap[Q]?=some (.cells (rdC (chgR D L) { x with an:=a,cn:=c,vl:=v,ls:=x.ls++[(a,c)] }) 57 (0,0)))
  (hL:LayR W' (fun k=>W.heap.size<=k) a L) (hl:W'.ownsRow 0 53 1 v (D.later.length+1) (lsC D.later x.ls++[slV L (a,c)])) (hv:v.ownBlock=x.vl.ownBlock\/∃ g,v.ownBlock=some g/\W.heap.size<=g/\g<W'.heap.size) (ab:Num m' (chgR D L)):RAft w W T Q m' (chgR D L) W':=by
 have hQ:=(Array.getElem?_eq_some_iff.1 h.row).1
 have aY:∀ k,T k->x.vl.ownBlock≠some k->W'.heap[k]?=W.heap[k]?:=fun k hk hn=>ho.block k (h.lt k hk) (fun e=>by
  rcases e with e|e
  ·exact h.np (e ▸ hk)
  ·exact hn e)
 have am:∀ k,x.vl.ownBlock=some k->IsT W k 53:=fun k hk=>own_type h.later k hk;have hE:∀ g,T g->IsT W g 130->W'.heap[g]?=W.heap[g]?:=fun g hg hi=>aY g hg (fun e=>(am g e).ne hi (by decide) rfl);have hI:∀ g,x.vi.ownBlock=some g->W'.heap[g]?=W.heap[g]?:=fun g hg=>aY g (h.iin g hg) (fun e=>(am g e).ne (own_type h.inos g hg) (by decide) rfl);have hT:∀ g,x.vt.ownBlock=some g->W'.heap[g]?=W.heap[g]?:=fun g hg=>aY g (h.tin g hg) (fun e=>(am g e).ne (own_type h.trace g hg) (by decide) rfl);refine⟨fun k=>T k\/(W.heap.size<=k/\k<W'.heap.size),⟨_,⟨au,?_,(h.safe.same ho.size hE).sup (fun _=>.inl),?_,?_,?_,?_,own_same h.inos hI,(fun g hg=>.inl (h.iin g hg)),own_same h.trace hT,(fun g hg=>.inl (h.tin g hg)),h.fates,h.edits,h.epath,fun k hk=>?_,h.ql,fun k hk=>?_,?_,?_,ab⟩⟩,fun k hk=>hk.imp id (·.1),ho.mono (fun k _ hk=>?_)⟩
 ·intro h0;obtain⟨g,o,e1,e2,e3,e4,e5⟩:=hL h0;exact⟨g,o,e1,e2,.inr ⟨e3,e2⟩,e4,e5⟩
 ·show W'.ownsRow 0 _ 1 v (D.later++[L]).length (lsC (D.later++[L]) (x.ls++[(a,c)]));rw[ls_snoc h.llen,length_append];exact hl
 ·show(x.ls++[(a,c)]).length=(D.later++[L]).length;rw[length_append,length_append,h.llen];rfl
 ·intro g hg;rcases hv with h1|⟨g',h1,h2,h3⟩
  ·exact .inl (h.lin g (by rw[<- h1];exact hg))
  ·rw[show v.ownBlock=some g from hg]at h1;injection h1 with h1;rw[h1];exact .inr ⟨h2,h3⟩
 ·intro j b l hj aO;have hj:(x.ls++[(a,c)])[j]?=some b:=hj;have aO:(D.later++[L])[j]?=some l:=aO;by_cases hjx:j<x.ls.length
  ·rw[List.getElem?_append_left hjx]at hj;rw[List.getElem?_append_left (by rw[<- h.llen];exact hjx)]at aO;exact((h.each j b l hj aO).same ho.size hE).sup (fun _=>.inl)
  ·have c7:=(List.getElem?_eq_some_iff.1 hj).1;rw[length_append,List.length_singleton]at c7;have c6:j=x.ls.length:=by omega
   rw[c6,getElem?_append_right (Nat.le_refl _),Nat.sub_self]at hj;rw[c6,h.llen,getElem?_append_right (Nat.le_refl _),Nat.sub_self]at aO;simp at hj aO;subst hj aO;intro h0;obtain⟨g,o,e1,e2,e3,e4,e5⟩:=hL h0;exact⟨g,o,e1,e2,.inr ⟨e3,e2⟩,e4,e5⟩
 ·rcases hk with h1|h1
  ·exact h.lo k h1
  ·exact Nat.le_trans h.bel.size h1.1
 ·rcases hk with h1|h1
  ·exact Nat.lt_of_lt_of_le (h.lt k h1) ho.size
  ·exact h1.2
 ·rintro (h1|h1)
  ·exact h.np h1
  ·omega
 ·exact((Out.of_below h.bel).then ho (fun j _ hj=>by
   rcases hj with hj|hj
   ·rw[hj];exact h.ql
   ·exact h.lo j (h.lin j hj))).below (fun k hk _ h2=>by omega) (Nat.le_refl _)
 ·rcases hk with h1|h1
  ·exact .inr h1
  ·exact .inl (h.lin k h1)
theorem later_after{wr w8:World}{Q:Nat}{a0 a1 a2 a3 a4 a5 a6 a7 a8 a9:Value}{t u:TypeId}{s:Value}{vb:Option Nat}(hr:wr.heap[Q]?=some (.cells #[a0,a1,a2,a3,a4,a5,a6,a7,a8,a9] t (0,0)))(hg:((wr.setCell ⟨Q,0,none⟩ s).alloc (.cells #[s] u)).grownBy w8 vb)(hn:vb≠some Q) :
  w8.heap[Q]?=some (.cells #[s,a1,a2,a3,a4,a5,a6,a7,a8,a9] t (0,0)):=by
 have hQ:=(Array.getElem?_eq_some_iff.1 hr).1;exact(hg.block Q (by simp[set_size];omega) (fun e=>hn e.symm)).trans (old_row (row_set (j:=0) hr s))
theorem infoRL:(Tryz.prog.info? 53).map (fun i=>(i.zero,i.size,i.bytes))=some (some (.slice none 0 0),1,24):=by kernel_rfl
theorem kchanged_any(w W:World)(T:Nat->Prop)(Q m m':Nat)(D:Dk)(l:List Nd)(ao:Option Addr)(cap:Nat)(h:RS w W T Q m D)(T0:Nat->Prop)(hl:LayR W T0 ao l)(hn:l.length<=10000)(hp:∀ e∈l,e.path.length<=1048576)(hm:m<=1000)(ab:Num m' (chgR D (sortK l l.length))) :
  Calls Tryz.prog 138 #[.pointer (some ⟨Q,0,none⟩),.slice ao l.length cap] W fun r W'=>r=.returned (.tuple #[])/\RAft w W T Q m' (chgR D (sortK l l.length)) W':=by
 obtain⟨i0,b7,aW,b6,bI⟩:=info_parts infoRE;obtain⟨n,bP⟩:∃ n,l.length=n:=⟨_,rfl⟩;rw[bP]at hn ab ⊢;have HN:=hid bP;have cq:=hid ab;have HL:=hid hl;have HP:=hid hp;have HH:=hid h;clear bP hl hp h ab;go_enter Tryz.func138,Tryz.ntmps138;repeat (first|go_skip|go_guarded|go_step|go_upon)
 go_loopw [4,5] (fun s4 s5 wr=>∃ k:Nat,s5=.int .i64 k/\k<=n/\wr.ownsRow W.heap.size 130 2 s4 (sortK l k).length (resC (sortK l k))/\Below W.heap.size W wr) (fun _ s5 _=>n-(RowKit.intOf s5).toNat)
 case atStart=>exact⟨0,rfl,Nat.zero_le _,World.ownsRow_nil _ _ _ _,Below.refl _ _⟩
 case round =>
  obtain⟨k,rfl,hk,ho,hb⟩:=hrel;obtain⟨S,hS⟩:∃ S,sortK l k=S:=⟨_,rfl⟩;have bV:S.length=k:=by rw[<- hS];exact sortK_len (by rw[HN.out];exact hk)
  rw[hS,bV]at ho;obtain⟨a4,c4,dh,-⟩:=owns_view ho;subst dh;have d4:Hid (∀ e∈S,e.path.length<=1048576):=hid (fun e he=>HP.out e (sortK_mem (by rw[hS];exact he)));have HO:=hid ho;have HB:=hid hb;have d5:=hb.size;have cL:=HL.out.below hb;have HS:=hid hS;have ak:=hid bV;clear ho hS bV;by_cases am:k<n
  ·have dk:(k:Int)<n:=by omega
   obtain⟨g,o,rfl,hg,_,_,hc⟩:=HL.out (by have:=HN.out;omega);obtain⟨x,hx⟩:∃ x,l[k]?=some x:=⟨_,List.getElem?_eq_getElem (by rw[HN.out];exact am)⟩;obtain⟨d1,d2⟩:=hc k x hx;obtain⟨X,hX,cO⟩:=txt_of x.path;obtain⟨kd,bC⟩:∃ z,x.kind=z:=⟨_,rfl⟩;rw[hX]at d1;rw[bC]at d2;have D1:=hid d1;have D2:=hid d2;have c1:=(hb.cell (p:=⟨g,o+k*2,none⟩) hg).trans d1;have c2:=(hb.cell (p:=⟨g,o+k*2+1,none⟩) hg).trans d2;have HG:=hid hg;have HX:=hid hx;have b9:=hid hX;have cK:=hid cO;have b8:=hid bC;have da:Hid (∀(W:World) (j:Nat) (u:Value),(reC x)[j]?=some u->(W.alloc (.cells #[.string X,.int .i64 kd] 130)).cell? ((⟨W.heap.size,0,none⟩:Addr).add j)=some u):=hid (fun W=>re_new W x _ _ hX bC);clear hc hx hX cO cL am bC hb hg d1 d2
   repeat (first
    | (at_builtin;refine wpList_append_own _ rfl _ _ 53 rfl W.heap.size 130 i0 (.agg #[.string ⟨#[]⟩,.int .i64 0]) 2 24 Tryz.underlying53 b7 aW b6 bI rfl (by decide) _ _ _ rfl (HO.out.alloc _) ⟨wr.heap.size,0,none⟩ 1 1 (reC x) rfl rfl (da.out wr) (re_one _) (by unfold maxLen;omega) (by omega) (by simp;omega) ?_;intro v' w8 aa ac ax;obtain⟨a8,c8,bo,cw⟩:=owns_view aa;obtain⟨g8,dm,-,-,-⟩:=cw (by omega);subst dm;subst bo;have aD:=hid aa;have dc:Hid (Below W.heap.size W w8):=hid ((HB.out.alloc d5 _).grown ac (by simp;omega) (fun j hj=>(HO.out.lt j hj).1));clear aa ac ax cw)
    | go_skip|go_guarded|go_step|go_upon)
   have cH:(k:Int)<=10000:=by omega
   have dy:Hid (w8.ownsRow W.heap.size 130 2 (.slice (some ⟨g8,0,none⟩) (k+1) c8) (k+1) (resC (midL S x k))):=hid (by
    have h1:=aD.out;rw[<- res_snoc,← mid_end,ak.out]at h1
    exact h1)
   go_loopw [6] (fun s6 wi=>∃(a:Nat) (y:Nd),s6=.int .i64 a/\a<=k/\posR S x k=posR S x a/\wi.ownsRow W.heap.size 130 2 (.slice (some ⟨g8,0,none⟩) (k+1) c8) (k+1) (resC (midL S y a))/\Below W.heap.size W wi) (fun s6 _=>(RowKit.intOf s6).toNat)
   case atStart=>exact⟨k,x,rfl,Nat.le_refl _,rfl,dy.out,dc.out⟩
   case round =>
    obtain⟨a,y,rfl,d7,bn,cE,cI⟩:=hrel;have bb:=hid cE;have b4:=hid cI;have aZ:=hid bn;have bO:=(cI.cell (p:=⟨g,o+k*2,none⟩) HG.out).trans D1.out;clear cE bn;by_cases h0:a=0
    ·have bN:Hid (posR S x k=a):=hid (by rw[aZ.out,h0];rfl);have cv:¬(0:Int)<(a:Int):=by omega
     have c5:¬ 0<a:=by omega
     have du:decide (0<a)=false:=by simpa using h0
     have cX:decide ((0:Int)<(a:Int))=false:=by simpa using h0
     clear h0;repeat (first|go_skip|go_guarded|go_step|go_upon)
     with_reducible refine wp_region_quiet_below (by kernel_rfl) (by kernel_rfl) ?_
     repeat (go_big_quiet_step (first|(go_at_call 90;exact D5.out _ _)))
     refine wpQuiet_nil ?_;intro _ hw';obtain⟨⟨dq,aP⟩,aT⟩:=hw';subst aT;have bq:=below_regrown wr dq aP;have ap:=hid (owns_below bb.out bq);have aB:Hid (Below W.heap.size W (Go.Sort.grow (redrawn wr dq) aP)):=hid (Below.trans b4.out (bq.mono b4.out.size));clear bO bq;generalize Go.Sort.grow (redrawn wr dq) aP=w6 at ap aB ⊢;have e1:=(aB.out.cell (p:=⟨g,o+k*2,none⟩) HG.out).trans D1.out;have e2:=(aB.out.cell (p:=⟨g,o+k*2+1,none⟩) HG.out).trans D2.out
     have ay:(midL S y a)[a]?=some y:=by
      unfold midL;rw[getElem?_append_right (by rw[length_take];omega),length_take,Nat.min_eq_left (by have:=ak.out;omega),Nat.sub_self];rfl
     obtain⟨YV,aI,-⟩:=txt_of y.path;obtain⟨yk,aF⟩:∃ z,y.kind=z:=⟨_,rfl⟩;obtain⟨s1,s2⟩:=own_cell ap.out (res_at _ a y ay).1;obtain⟨s3,s4⟩:=own_cell ap.out (res_at _ a y ay).2;rw[aI]at s1;rw[aF]at s3;have bf:(a:Int)<(k:Int)+1:=by omega
     have aq:Hid (((w6.setCell ⟨g8,a*2,none⟩ (.string X)).setCell ⟨g8,a*2+1,none⟩ (.int .i64 kd)).ownsRow W.heap.size 130 2 (.slice (some ⟨g8,0,none⟩) (k+1) c8) (sortK l (k+1)).length (resC (sortK l (k+1)))):=hid (by
      have hr:=own_set (own_set ap.out (by omega) (a*2) (.string X)) (by omega) (a*2+1) (.int .i64 kd);rw[<- b9.out,← b8.out,res_set,mid_set (by have:=ak.out;omega)]at hr
      have cj:sortK l (k+1)=midL S x a:=by
       rw[sortK_succ HX.out,HS.out];unfold insR midL;rw[ak.out,bN.out]
      rw[cj,mid_len (by have:=ak.out;omega),ak.out,← b9.out,← b8.out]
      exact hr)
     have aM:W.heap.size<=g8:=(ap.out.lt g8 rfl).1;have b0:Hid (Below W.heap.size W ((w6.setCell ⟨g8,a*2,none⟩ (.string X)).setCell ⟨g8,a*2+1,none⟩ (.int .i64 kd))):=hid ((aB.out.setCell (p:=⟨g8,a*2,none⟩) aM _).setCell (p:=⟨g8,a*2+1,none⟩) aM _);have bG:(k:Int)+1<=10001:=by omega
     clear ay aI aF;repeat (first|go_skip|go_guarded|go_step|go_upon)
     exact⟨⟨k+1,by go_num,by omega,aq.out,b0.out⟩,by simp[RowKit.intOf];omega⟩
    ·have cv:(0:Int)<(a:Int):=by omega
     have c5:0<a:=by omega
     have du:decide (0<a)=true:=by simpa using c5
     have cX:decide ((0:Int)<(a:Int))=true:=by simpa using cv
     obtain⟨j,hj⟩:∃ j,a-1=j:=⟨_,rfl⟩;have dA:j<k:=by omega
     have d8:RowKit.wrap64 ((a:Int)-1)=j:=by unfold RowKit.wrap64;omega
     have dp:IntKind.i64.wrap ((a:Int)-1)=j:=by rw[IntKind.wrap_i64];omega
     have cY:(a:Int)-1=j:=by omega
     have c7:(j:Int)<(k:Int)+1:=by omega
     obtain⟨e,he⟩:∃ e,S[j]?=some e:=⟨_,List.getElem?_eq_getElem (by have:=ak.out;omega)⟩;have aE:=mid_at (y:=y) he;rw[show j+1=a by omega]at aE;obtain⟨E,hE,cb⟩:=txt_of e.path;obtain⟨ek,cV⟩:∃ z,e.kind=z:=⟨_,rfl⟩;obtain⟨r1,-⟩:=own_cell bb.out (res_at _ j e aE).1;rw[hE]at r1;obtain⟨z,hz⟩:∃ z,NP.ordL e.path x.path=z:=⟨_,rfl⟩;have cC:=d4.out e (List.mem_of_getElem? he);have cy:=HP.out x (List.mem_of_getElem? HX.out)
     have C5:Hid (∀ W,Calls Tryz.prog 90 #[.string E,.string X] W fun r w'=>r=.returned (.int .i64 z)/\Below W.heap.size W w'):=hid (fun W=>by
      refine(R1.RO.rorder_any E X W (by rw[size_eq,cb];exact cC) (by rw[size_eq,cK.out];exact cy)).mono ?_;rintro r w' ⟨rfl,hb⟩;rw[cb,cK.out,hz]
      exact⟨rfl,hb⟩)
     have D5:=hid (TG.reg_g (w:=wr) (fun W _=>C5.out W))
     have cA:Hid (posR S x a=if 0<z then posR S x j else a):=hid (by
      rw[show a=j+1 by omega];show(if 0<NP.ordL ((S[j]?).getD x).path x.path then posR S x j else j+1)=_
      rw[he,Option.getD_some,hz])
     have de:=hid he;have cd:=hid hE;have cm:=hid cV;have b3:=hid aE;have HJ:Hid (j+1=a):=hid (by omega);have f1:=cell_regrown r1;have f2:=cell_regrown bO;clear he hE cb cV aE hz cC cy hj;repeat (first|go_skip|go_guarded|go_step|go_upon)
     with_reducible refine wp_region_quiet_below (by kernel_rfl) (by kernel_rfl) ?_
     repeat (go_big_quiet_step (first|(go_at_call 90;exact D5.out _ _)))
     refine wpQuiet_nil ?_;intro _ hw';obtain⟨⟨dq,aP⟩,aT⟩:=hw';subst aT;have bq:=below_regrown wr dq aP;have ap:=hid (owns_below bb.out bq);have aB:Hid (Below W.heap.size W (Go.Sort.grow (redrawn wr dq) aP)):=hid (Below.trans b4.out (bq.mono b4.out.size));clear bO r1 f1 f2 bq;generalize Go.Sort.grow (redrawn wr dq) aP=w6 at ap aB ⊢;by_cases aW:0<z
     ·have ds:Hid (posR S x k=posR S x j):=hid (by rw[aZ.out,cA.out,if_pos aW]);obtain⟨t1,-⟩:=own_cell ap.out (res_at _ j e b3.out).1;obtain⟨t2,-⟩:=own_cell ap.out (res_at _ j e b3.out).2;rw[cd.out]at t1;rw[cm.out]at t2
      have ay:(midL S y a)[a]?=some y:=by
       unfold midL;rw[getElem?_append_right (by rw[length_take];omega),length_take,Nat.min_eq_left (by have:=ak.out;omega),Nat.sub_self];rfl
      obtain⟨YV,aI,-⟩:=txt_of y.path;obtain⟨yk,aF⟩:∃ z,y.kind=z:=⟨_,rfl⟩;obtain⟨s1,s2⟩:=own_cell ap.out (res_at _ a y ay).1;obtain⟨s3,s4⟩:=own_cell ap.out (res_at _ a y ay).2;rw[aI]at s1;rw[aF]at s3;have bf:(a:Int)<(k:Int)+1:=by omega
      have aM:W.heap.size<=g8:=(ap.out.lt g8 rfl).1
      have aq:Hid (((w6.setCell ⟨g8,a*2,none⟩ (.string E)).setCell ⟨g8,a*2+1,none⟩ (.int .i64 ek)).ownsRow W.heap.size 130 2 (.slice (some ⟨g8,0,none⟩) (k+1) c8) (k+1) (resC (midL S e j))):=hid (by
       have hr:=own_set (own_set ap.out (by omega) (a*2) (.string E)) (by omega) (a*2+1) (.int .i64 ek);rw[<- cd.out,← cm.out,res_set,mid_set (by have:=ak.out;omega)]at hr;rw[<- mid_down de.out,HJ.out,← cd.out,← cm.out]
       exact hr)
      have b0:Hid (Below W.heap.size W ((w6.setCell ⟨g8,a*2,none⟩ (.string E)).setCell ⟨g8,a*2+1,none⟩ (.int .i64 ek))):=hid ((aB.out.setCell (p:=⟨g8,a*2,none⟩) aM _).setCell (p:=⟨g8,a*2+1,none⟩) aM _);clear ay aI aF;repeat (first|go_skip|go_guarded|go_step|go_upon)
      exact⟨⟨j,e,rfl,by omega,ds.out,aq.out,b0.out⟩,by simp[RowKit.intOf];omega⟩
     ·have bN:Hid (posR S x k=a):=hid (by rw[aZ.out,cA.out,if_neg aW]);have e1:=(aB.out.cell (p:=⟨g,o+k*2,none⟩) HG.out).trans D1.out;have e2:=(aB.out.cell (p:=⟨g,o+k*2+1,none⟩) HG.out).trans D2.out
      have ay:(midL S y a)[a]?=some y:=by
       unfold midL;rw[getElem?_append_right (by rw[length_take];omega),length_take,Nat.min_eq_left (by have:=ak.out;omega),Nat.sub_self];rfl
      obtain⟨YV,aI,-⟩:=txt_of y.path;obtain⟨yk,aF⟩:∃ z,y.kind=z:=⟨_,rfl⟩;obtain⟨s1,s2⟩:=own_cell ap.out (res_at _ a y ay).1;obtain⟨s3,s4⟩:=own_cell ap.out (res_at _ a y ay).2;rw[aI]at s1;rw[aF]at s3;have bf:(a:Int)<(k:Int)+1:=by omega
      have aq:Hid (((w6.setCell ⟨g8,a*2,none⟩ (.string X)).setCell ⟨g8,a*2+1,none⟩ (.int .i64 kd)).ownsRow W.heap.size 130 2 (.slice (some ⟨g8,0,none⟩) (k+1) c8) (sortK l (k+1)).length (resC (sortK l (k+1)))):=hid (by
       have hr:=own_set (own_set ap.out (by omega) (a*2) (.string X)) (by omega) (a*2+1) (.int .i64 kd);rw[<- b9.out,← b8.out,res_set,mid_set (by have:=ak.out;omega)]at hr
       have cj:sortK l (k+1)=midL S x a:=by
        rw[sortK_succ HX.out,HS.out];unfold insR midL;rw[ak.out,bN.out]
       rw[cj,mid_len (by have:=ak.out;omega),ak.out,← b9.out,← b8.out]
       exact hr)
      have aM:W.heap.size<=g8:=(ap.out.lt g8 rfl).1;have b0:Hid (Below W.heap.size W ((w6.setCell ⟨g8,a*2,none⟩ (.string X)).setCell ⟨g8,a*2+1,none⟩ (.int .i64 kd))):=hid ((aB.out.setCell (p:=⟨g8,a*2,none⟩) aM _).setCell (p:=⟨g8,a*2+1,none⟩) aM _);have bG:(k:Int)+1<=10001:=by omega
      clear ay aI aF;repeat (first|go_skip|go_guarded|go_step|go_upon)
      exact⟨⟨k+1,by go_num,by omega,aq.out,b0.out⟩,by simp[RowKit.intOf];omega⟩
  ·have dk:¬(k:Int)<n:=by omega
   obtain rfl:k=n:=by omega
   obtain⟨i1,aH,ba,be,bd⟩:=info_parts infoRL;obtain⟨x,hx⟩:=HH.out;have HX:=hid hx;have hr:=hx.row;have hQ:=(Array.getElem?_eq_some_iff.1 hr).1;have bE:=hx.later;have cW:=hx.num.later;unfold rdC at hr;have HR:=hid hr;obtain⟨c0,-,c2,-,-,-,-,-,-,-,cf⟩:=row10 hr;have q0:=(hb.cell (p:=⟨Q,0,none⟩) hQ).trans c0;have q2:=(hb.cell (p:=⟨Q,2,none⟩) hQ).trans c2;have qf:∀ j,wr.frozen? ⟨Q,j,none⟩=false:=fun j=>(hb.frozen (p:=⟨Q,j,none⟩) hQ).trans (cf j);have d9:Q<wr.heap.size:=by omega
   obtain⟨vl,bX⟩:∃ v,x.vl=v:=⟨_,rfl⟩;rw[bX]at q2 bE;obtain⟨al,cl,co,-⟩:=owns_view bE;subst co;have ca:=hid bX;have cT:=hid (owns_below bE hb);obtain⟨nl,aU⟩:∃ n,D.later.length=n:=⟨_,rfl⟩;have bc:=hid aU;rw[aU]at cW q2;clear am cL hb hx hr c0 c2 bE bX aU;have dt:nl<=2097152000:=by omega
   have bB:Hid (((wr.setCell ⟨Q,0,none⟩ (.slice a4 k c4)).alloc (.cells #[.slice a4 k c4] 53)).ownsRow 0 53 1 (.slice al nl cl) nl (lsC D.later x.ls)):=hid (by
    have h1:=cT.out;rw[bc.out]at h1
    refine World.ownsRow.alloc (own_same h1 fun g hg=>set_other wr Q 0 g _ (fun e=>HX.out.np (e ▸ HX.out.lin g (by rw[ca.out,bc.out];exact hg)))) _)
   have di:Hid (∀(j:Nat) (u:Value),([.slice a4 k c4]:List Value)[j]?=some u->((wr.setCell ⟨Q,0,none⟩ (.slice a4 k c4)).alloc (.cells #[.slice a4 k c4] 53)).cell? ((⟨wr.heap.size,0,none⟩:Addr).add j)=some u):=hid (fun j u hu=>by
    have:=one_new (wr.setCell ⟨Q,0,none⟩ (.slice a4 k c4)) (.slice a4 k c4) 53 j u hu;rw[set_size]at this
    exact this)
   have dd:Hid (wr.heap[Q]?=some (.cells #[.slice x.an D.names.length x.cn,.slice x.as_ D.safe.length x.cs,x.vl,x.vi,.bool D.off,.int .i64 (D.trace.length:Nat),.int .i64 (D.clock:Nat),x.vt,.slice x.af D.fates.length x.cf,.slice x.ae D.edits.length x.ce] 57 (0,0))):=hid ((HB.out.block Q hQ).trans HR.out);have bF:Hid ((Value.slice al nl cl).ownBlock≠some Q):=hid (fun e=>HX.out.np (HX.out.lin Q (by rw[ca.out,bc.out];exact e)));have dw:Hid (Out (fun k=>k=Q\/x.vl.ownBlock=some k) W ((wr.setCell ⟨Q,0,none⟩ (.slice a4 k c4)).alloc (.cells #[.slice a4 k c4] 53))):=hid ((((Out.refl _ W).thenBelow HB.out).setCell (p:=⟨Q,0,none⟩) (fun _=>.inl rfl) _).alloc _)
   repeat (first
    | (at_builtin;refine wpList_append_own_at _ rfl _ _ 54 rfl 0 53 i1 (.slice none 0 0) 1 24 Tryz.underlying54 aH ba be bd rfl (by decide) _ _ _ rfl bB.out ⟨wr.heap.size,0,none⟩ 1 1 [.slice a4 k c4] rfl rfl di.out (fun u hu=>by rw[List.mem_singleton.1 hu];rfl) (by unfold maxLen;omega) (by omega) (by omega) ?_;intro v' w8 aa ac ax aK;obtain⟨a8,c8,bo,-⟩:=owns_view aa;subst bo;have bp:=hid aK;have bL:=later_after dd.out ac bF.out;have cS:=hid bL;obtain⟨-,-,p2,-,-,-,-,-,-,-,pf⟩:=row10 bL;have aD:=hid aa;have bk:=hid ac;clear aa ac ax bL aK)
    | go_skip|go_guarded|go_step|go_upon)
   go_end0
   refine⟨rfl,?_⟩;have bx:x.vl.ownBlock=(Value.slice al nl cl).ownBlock:=by rw[ca.out,bc.out]
   have df:Out (fun k=>k=Q\/x.vl.ownBlock=some k) W (w8.setCell ⟨Q,2,none⟩ (.slice a8 (nl+1) c8)):=(dw.out.grown bk.out (fun k hk _=>.inr (by rw[bx];exact hk))).setCell (p:=⟨Q,2,none⟩) (fun _=>.inl rfl) _;have ab:=cq.out;rw[HS.out]at ab;rw[HS.out];have cJ:∀ g,g≠Q->(w8.setCell ⟨Q,2,none⟩ (.slice a8 (nl+1) c8)).heap[g]?=w8.heap[g]?:=fun g hg=>set_other w8 Q 2 g _ hg;have bG:∀ g,(Value.slice a4 k c4).ownBlock=some g->W.heap.size<=g:=fun g hg=>(HO.out.lt g hg).1;refine HX.out.newNames (L:=S) (a:=a4) (c:=c4) (v:=.slice a8 (nl+1) c8) df ?_ ?_ ?_ ?_ ab
   ·rw[row_set (j:=2) cS.out (.slice a8 (nl+1) c8)];unfold rdC chgR;simp only;rw[ak.out];rfl
   ·have ag:(w8.setCell ⟨Q,2,none⟩ (.slice a8 (nl+1) c8)).ownsRow W.heap.size 130 2 (.slice a4 k c4) k (resC S):=own_same HO.out fun g hg=>by
     have dg:=own_type HO.out g hg;have am:=(HO.out.lt g hg).2;have cQ:g≠Q:=by have:=bG g hg;omega
     rw[cJ g cQ];refine(bk.out.block g (by simp[set_size];omega) (fun e=>?_)).trans ?_
     ·have h3:IsT wr g 53:=own_type cT.out g (by rw[bc.out];exact e.symm);exact h3.ne dg (by decide) rfl
     ·exact(Below.heap_alloc _ _ g (by rw[set_size];omega)).trans (set_other wr Q 0 g _ cQ)
    rw[<- ak.out]at ag;obtain⟨dn,c',he,bU⟩:=layR_own (T:=fun k=>W.heap.size<=k) ag (fun g hg=>bG g (by rw[<- ak.out];exact hg));injection he with he _ _;rw[he];exact bU
   ·have h1:=own_same aD.out fun g hg=>cJ g (fun e=>(own_type aD.out g hg).ne ⟨_,_,e ▸ cS.out⟩ (by decide) rfl);rw[bc.out];have h2:slV S (a4,c4)=.slice a4 k c4:=by unfold slV;rw[ak.out]
    rw[h2];exact h1
   ·rcases bp.out with h1|h1
    ·exact .inl (by rw[bx];exact h1)
    ·refine .inr ⟨_,h1,?_,?_⟩
     ·have:=HB.out.size;simp[set_size];omega
     ·have h2:=own_type aD.out _ h1;obtain⟨cc,fz,h3⟩:=h2;have:=(Array.getElem?_eq_some_iff.1 h3).1;rw[set_size];exact this
end RK
end
section
open Go.RowKit Go.Lib Go.BigFrame
namespace RK
open OM TP TM DP DM FP DG TG TR
def inosR(D:Dk)(I:List Ino):Dk:={ D with inos:=I }
theorem RX.growInos{w W W':World}{T:Nat->Prop}{Q m m':Nat}{D:Dk}{x:RP}{I:List Ino}{v:Value}(h:RX w T W Q m D x)(ho:Out (fun k=>k=Q\/x.vi.ownBlock=some k) W W')
  (au:W'.heap[Q]?=some (.cells (rdC (inosR D I) { x with vi:=v }) 57 (0,0)))
  (hi:W'.ownsRow 0 128 5 v I.length (risC I)) (hv:v.ownBlock=x.vi.ownBlock\/∃ g,v.ownBlock=some g/\W.heap.size<=g/\g<W'.heap.size) (ab:Num m' (inosR D I)) :
  ∃ T',RX w T' W' Q m' (inosR D I) { x with vi:=v }/\(∀ k,T' k->T k\/W.heap.size<=k)/\Out (fun k=>T k\/k=Q) W W':=by
 have hQ:=(Array.getElem?_eq_some_iff.1 h.row).1
 have aY:∀ k,T k->x.vi.ownBlock≠some k->W'.heap[k]?=W.heap[k]?:=fun k hk hn=>ho.block k (h.lt k hk) (fun e=>by
  rcases e with e|e
  ·exact h.np (e ▸ hk)
  ·exact hn e)
 have am:∀ k,x.vi.ownBlock=some k->IsT W k 128:=fun k hk=>own_type h.inos k hk;have hE:∀ g,T g->IsT W g 130->W'.heap[g]?=W.heap[g]?:=fun g hg hi=>aY g hg (fun e=>(am g e).ne hi (by decide) rfl);have hI:∀ g,x.vl.ownBlock=some g->W'.heap[g]?=W.heap[g]?:=fun g hg=>aY g (h.lin g hg) (fun e=>(am g e).ne (own_type h.later g hg) (by decide) rfl);have hT:∀ g,x.vt.ownBlock=some g->W'.heap[g]?=W.heap[g]?:=fun g hg=>aY g (h.tin g hg) (fun e=>(am g e).ne (own_type h.trace g hg) (by decide) rfl);refine⟨fun k=>T k\/(W.heap.size<=k/\k<W'.heap.size),⟨au,(h.names.same ho.size hE).sup (fun _=>.inl),(h.safe.same ho.size hE).sup (fun _=>.inl),own_same h.later hI,h.llen,(fun g hg=>.inl (h.lin g hg)),(fun j a l h1 h2=>((h.each j a l h1 h2).same ho.size hE).sup (fun _=>.inl)),hi,?_,own_same h.trace hT,(fun g hg=>.inl (h.tin g hg)),h.fates,h.edits,h.epath,fun k hk=>?_,h.ql,fun k hk=>?_,?_,?_,ab⟩,fun k hk=>hk.imp id (·.1),ho.mono (fun k _ hk=>?_)⟩
 ·intro g hg;have hg:v.ownBlock=some g:=hg;rcases hv with h1|⟨g',h1,h2,h3⟩
  ·exact .inl (h.iin g (by rw[<- h1];exact hg))
  ·rw[hg]at h1;injection h1 with h1;rw[h1];exact .inr ⟨h2,h3⟩
 ·rcases hk with h1|h1
  ·exact h.lo k h1
  ·exact Nat.le_trans h.bel.size h1.1
 ·rcases hk with h1|h1
  ·exact Nat.lt_of_lt_of_le (h.lt k h1) ho.size
  ·exact h1.2
 ·rintro (h1|h1)
  ·exact h.np h1
  ·omega
 ·exact((Out.of_below h.bel).then ho (fun j _ hj=>by
   rcases hj with hj|hj
   ·rw[hj];exact h.ql
   ·exact h.lo j (h.iin j hj))).below (fun k hk _ h2=>by omega) (Nat.le_refl _)
 ·rcases hk with h1|h1
  ·exact .inr h1
  ·exact .inl (h.iin k h1)
theorem ri_new(W:World)(i:Ino)(V:Value)(hV:txt i.data=V):∀(j:Nat) (u:Value),(riC i)[j]?=some u->(W.alloc (.cells #[.int .i64 i.kind,.int .i64 i.mode,.int .i64 i.time,V,.bool i.dirty] 128)).cell? ((⟨W.heap.size,0,none⟩:Addr).add j)=some u:=by
 subst hV;intro j u hu;have e1:(⟨W.heap.size,0,none⟩:Addr).add j=⟨W.heap.size,j,none⟩:=by simp[Addr.add];omega
 rw[e1,cell_of_row _ _ j _ _ _ (heap_alloc_new W _),← hu];show(riC i).toArray[j]?=_;simp
theorem res_cell{W:World}{g o:Nat}{l:List Nd}(h:∀(k:Nat) (e:Nd),l[k]?=some e->REAt W g (o+k*2) e):∀(j:Nat) (u:Value),(resC l)[j]?=some u->W.cell? ((⟨g,o,none⟩:Addr).add j)=some u:=by
 intro j u hu;have hj:=(List.getElem?_eq_some_iff.1 hu).1;rw[res_len]at hj;obtain⟨k,r,e,hr⟩:∃ k r,j=k*2+r/\r<2:=⟨j / 2,j % 2,by omega,by omega⟩;have hk:k<l.length:=by omega
 obtain⟨x,hx⟩:∃ x,l[k]?=some x:=⟨l[k],List.getElem?_eq_getElem hk⟩;have ha:=res_at l k x hx;have hc:=h k x hx;have e1:(⟨g,o,none⟩:Addr).add j=⟨g,o+j,none⟩:=by simp[Addr.add]
 rw[e1];rcases (show r=0\/r=1 by omega)with e2|e2
 ·subst e2;rw[e,Nat.add_zero]at hu ⊢;rw[ha.1]at hu;exact hc.p.trans hu
 ·subst e2;rw[e]at hu ⊢;rw[ha.2]at hu;rw[<- Nat.add_assoc];exact hc.i.trans hu
theorem run_copy(W:World)(base:Nat)(T:Nat->Prop)(ao:Option Addr)(cap n:Nat)(l:List Nd)(v:Value)(hl:LayR W T ao l)(ag:W.ownsRow base 130 2 v 0 [])(hb:base<=W.heap.size)(hn:l.length<=10000)(hnn:l.length=n) :
  ∃ v' w',(Builtin.append_ #[53,53] 53 #[v,.slice ao n cap]).run Tryz.prog W=.ok v' w'/\w'.ownsRow base 130 2 v' n (resC l)/\W.grownBy w' v.ownBlock:=by
 obtain⟨i1,aH,ba,be,bd⟩:=info_parts infoRE;subst hnn;by_cases h0:0<l.length
 ·obtain⟨g,o,e,am,ht,hi,hc⟩:=hl h0;subst e;obtain⟨v',w',h1,h2,h3,-⟩:=run_append_own (P:=Tryz.prog) W base 53 53 130 i1 _ 2 24 Tryz.underlying53 aH ba be bd rfl (by decide) v 0 [] ag ⟨g,o,none⟩ l.length cap (resC l) (res_len l) (res_cell hc) (res_one l) (by unfold maxLen;omega) (by omega) hb;rw[Nat.zero_add,List.nil_append]at h2;exact⟨v',w',h1,h2,h3⟩
 ·obtain rfl:l=[]:=by cases l with|nil=>rfl|cons _ _=>simp at h0
  cases ao with
  | some a0 =>
   obtain⟨v',w',h1,h2,h3,-⟩:=run_append_own (P:=Tryz.prog) W base 53 53 130 i1 _ 2 24 Tryz.underlying53 aH ba be bd rfl (by decide) v 0 [] ag a0 0 cap [] rfl (fun j u hu=>by simp at hu) (fun u hu=>by simp at hu) (by unfold maxLen;omega) (by omega) hb;exact⟨v',w',h1,h2,h3⟩
  | none =>
   refine⟨v,W,?_,ag,⟨rfl,rfl,rfl,Nat.le_refl _,fun _ _ _=>rfl⟩⟩;show(Builtin.append_ #[53,53] 53 #[v,.slice none 0 cap]).run Tryz.prog W=.ok v W;rcases ag.2 with ⟨rfl,h4⟩|⟨g,dx,cg,rfl,_,_,db,_⟩
   ·simp[Builtin.append_,run_underlying Tryz.underlying53,sizeOf,typeInfo,aH,Builtin.lenOf,Builtin.firstCells]
   ·simp[Builtin.append_,run_underlying Tryz.underlying53,sizeOf,typeInfo,aH,Builtin.lenOf,Builtin.firstCells,db,storeCells]
def withR(D:Dk)(p:List UInt8)(i:Ino):Dk:=chgR (inosR D (D.inos++[i])) (sortK (D.names++[en p (D.inos.length+1:Nat)]) (D.names.length+1))
theorem kwith_any(w W:World)(T:Nat->Prop)(Q m m':Nat)(D:Dk)(p:List UInt8)(i:Ino)(h:RS w W T Q m D)(hl:D.names.length<=5000)(hm:m<=1000)(ab:Num m (inosR D (D.inos++[i])))(hnum2:Num m' (withR D p i))(hp:∀ e∈D.names,e.path.length<=1048576)(hpp:p.length<=1048576) :
  Calls Tryz.prog 136 #[.pointer (some ⟨Q,0,none⟩),txt p,riV i] W fun r W'=>r=.returned (.tuple #[])/\RAft w W T Q m' (withR D p i) W':=by
 obtain⟨i0,b7,aW,b6,bI⟩:=info_parts infoRI;obtain⟨i1,aH,ba,be,bd⟩:=info_parts infoRE;obtain⟨x,hx⟩:=h;have HX:=hid hx;have hr:=hx.row;have am:=(Array.getElem?_eq_some_iff.1 hr).1;have cu:=num_inos hx.num hm;have bt:=hx.inos;unfold rdC at hr;have HR:=hid hr;obtain⟨vi,bK⟩:∃ v,x.vi=v:=⟨_,rfl⟩;rw[bK]at hr bt;obtain⟨ai,ci,bT,-⟩:=owns_view bt;subst bT;obtain⟨n,hn⟩:∃ n,D.inos.length=n:=⟨_,rfl⟩;rw[hn]at hr bt cu;obtain⟨c0,-,-,c3,-,-,-,-,-,-,cf⟩:=row10 hr;have HV:=hid bK;have HN:=hid hn;have aX:=num_inos ab hm;rw[show(inosR D (D.inos++[i])).inos.length=n+1 by show(D.inos++[i]).length=_;rw[length_append,hn];rfl]at aX;have bb:=hid bt;obtain⟨V,hV,_⟩:=txt_of i.data;obtain⟨P,hP,d6⟩:=txt_of p;unfold riV;rw[hV,hP];clear hx hr bt bK hn;go_enter Tryz.func136,Tryz.ntmps136;repeat (first|go_skip|go_guarded|go_step|go_upon)
 have b1:Below W.heap.size W (W.alloc (.cells #[.int .i64 i.kind,.int .i64 i.mode,.int .i64 i.time,.string V,.bool i.dirty] 128)):=(Below.refl _ _).alloc (Nat.le_refl _) _;have RB:=heap_alloc_new W (.cells #[.int .i64 i.kind,.int .i64 i.mode,.int .i64 i.time,.string V,.bool i.dirty] 128);obtain⟨s0,s1,s2,s3,s4⟩:=row5 RB;have w3:=(b1.cell (p:=⟨Q,3,none⟩) am).trans c3;obtain⟨W1,cr⟩:∃ W1,(W.alloc (.cells #[.int .i64 i.kind,.int .i64 i.mode,.int .i64 i.time,.string V,.bool i.dirty] 128))=W1:=⟨_,rfl⟩;have aN:W.heap.size<W1.heap.size:=by rw[<- cr];simp
 rw[cr]at b1 RB s0 s1 s2 s3 s4 w3 ⊢;have B1:=hid b1;have cF:=hid RB;have bB:=hid (owns_below bb.out b1);have br:Hid (∀(j:Nat) (u:Value),(riC i)[j]?=some u->(W1.drew.alloc (.cells #[.int .i64 i.kind,.int .i64 i.mode,.int .i64 i.time,.string V,.bool i.dirty] 128)).cell? ((⟨W1.heap.size,0,none⟩:Addr).add j)=some u):=hid (ri_new W1.drew i _ hV);clear cr RB b1;refine wp_region_noPanic ?_;with_reducible refine QT.region_pick (S:=fun w'=>w'.cell? ⟨W.heap.size,0,none⟩=some (.int .i64 i.kind)/\w'.cell? ⟨W.heap.size,1,none⟩=some (.int .i64 i.mode)/\w'.cell? ⟨W.heap.size,2,none⟩=some (.int .i64 i.time)/\w'.cell? ⟨W.heap.size,3,none⟩=some (.string V)/\w'.cell? ⟨W.heap.size,4,none⟩=some (.bool i.dirty)/\w'.cell? ⟨Q,3,none⟩=some (.slice ai n ci)) [0,1,2,3,4,5] [6,7] 8 (by kernel_rfl) (by kernel_rfl) ?_ ?_ ?_
 ·exact fun _ _ _ _ _ h=>h
 ·exact⟨s0,s1,s2,s3,s4,w3⟩
 intro _;simp only[QT.pick,List.filterMap_cons,List.filterMap_nil,List.getElem?_cons_succ,List.getElem?_cons_zero,List.drop_succ_cons,drop_zero];iterate 6 (refine QT.wpTake_cons _ (by rfl) (by intro w' bW;obtain⟨y0,y1,y2,y3,y4,y5⟩:=bW;go_simp;first|done|rfl) ?_;try simp only[Act.put,setIfInBounds_toArray,set_cons_zero,set_cons_succ])
 refine QT.wpTake_nil ?_;intro K' hK;rw[if_pos (by rfl)];go_simp;have bA:Below W1.heap.size W1 (W1.alloc (.cells #[.int .i64 i.kind,.int .i64 i.mode,.int .i64 i.time,.string V,.bool i.dirty] 128)).drew:=((Below.refl _ _).alloc (Nat.le_refl _) _).drew;have aR:=(bA.block _ aN).trans cF.out;have cz:Q<W1.heap.size:=by omega
 have a3:=(bA.cell (p:=⟨Q,3,none⟩) cz).trans w3;obtain⟨u0,u1,u2,u3,u4⟩:=row5 aR;refine hK.out _ _ ⟨u0,u1,u2,u3,u4,a3⟩ ?_;clear hK K';try simp only[Act.put,setIfInBounds_toArray,set_cons_zero,set_cons_succ]
 have ct:Hid ((W1.alloc (.cells #[.int .i64 i.kind,.int .i64 i.mode,.int .i64 i.time,.string V,.bool i.dirty] 128)).drew.ownsRow 0 128 5 (.slice ai n ci) n (risC D.inos)):=hid (owns_below bB.out bA);have bM:Hid (∀(j:Nat) (u:Value),(riC i)[j]?=some u->(W1.alloc (.cells #[.int .i64 i.kind,.int .i64 i.mode,.int .i64 i.time,.string V,.bool i.dirty] 128)).drew.cell? ((⟨W1.heap.size,0,none⟩:Addr).add j)=some u):=hid (fun j u hu=>br.out j u hu);have bm:Hid (Below W.heap.size W (W1.alloc (.cells #[.int .i64 i.kind,.int .i64 i.mode,.int .i64 i.time,.string V,.bool i.dirty] 128)).drew):=hid (Below.trans B1.out (bA.mono B1.out.size));have bS:=hid aR;have ck:W.heap.size<(W1.alloc (.cells #[.int .i64 i.kind,.int .i64 i.mode,.int .i64 i.time,.string V,.bool i.dirty] 128)).drew.heap.size:=Nat.lt_of_lt_of_le aN bA.size;clear bA aR s0 s1 s2 s3 s4 w3;generalize (W1.alloc (.cells #[.int .i64 i.kind,.int .i64 i.mode,.int .i64 i.time,.string V,.bool i.dirty] 128)).drew=WA at ct bM bm bS ck u0 u1 u2 u3 u4 a3 ⊢;obtain⟨v',w',ad,aa,aj,bv,aL⟩:=run_append_own_at (P:=Tryz.prog) WA 0 55 55 128 i0 _ 5 48 Tryz.underlying55 b7 aW b6 bI rfl (by decide) (.slice ai n ci) n (risC D.inos) ct.out ⟨W1.heap.size,0,none⟩ 1 1 (riC i) rfl bM.out (ri_one i) (by unfold maxLen;omega) aX (Nat.zero_le _);intro K' hK;refine step_app_eq rfl (.tmp 10) (.tmp 12) 55 55 rfl (.slice ai n ci) (.slice (some ⟨W1.heap.size,0,none⟩) 1 1) rfl rfl ad ?_;have bZ:(Value.slice ai n ci).ownBlock≠some Q:=fun e=>HX.out.np (HX.out.iin Q (by rw[HV.out,HN.out];exact e))
 have cG:(Value.slice ai n ci).ownBlock≠some W.heap.size:=fun e=>by
  have:=HX.out.lt W.heap.size (HX.out.iin _ (by rw[HV.out,HN.out];exact e));omega
 have bu:=(aj.block W.heap.size ck (fun e=>cG e.symm)).trans bS.out;obtain⟨x0,x1,x2,x3,x4⟩:=row5 bu;have bF:=hid bZ;have cx:Q<WA.heap.size:=by omega
 have aQ:=(aj.block Q cx (fun e=>bZ e.symm)).trans ((bm.out.block Q am).trans HR.out);have aJ:=hid aQ;obtain⟨z0,-,-,z3,-,-,-,-,-,-,zf⟩:=row10 aQ;rw[HV.out,HN.out]at z3;refine hK.out _ _ ⟨x0,x1,x2,x3,x4,z3⟩ ?_;clear hK K';refine QT.wpDo_nil ?_;try simp only[Act.put,setIfInBounds_toArray,set_cons_zero,set_cons_succ]
 obtain⟨a8,c8,bo,-⟩:=owns_view aa;subst bo;have aD:=hid aa;have bk:=hid aj;have bp:=hid aL;clear ad aa aj bv aL u0 u1 u2 u3 u4 a3 x0 x1 x2 x3 x4 bu aQ bZ cG;repeat (first|go_skip|go_guarded|go_step|go_upon)
 refine NoPanic.normal ?_;repeat (first|go_skip|go_guarded|go_step|go_upon)
 have bl:∀ g,(Value.slice a8 (n+1) c8).ownBlock=some g->g≠Q:=by
  intro g hg e;subst e;rcases bp.out with h1|h1
  ·rw[h1]at hg;exact bF.out hg
  ·rw[h1]at hg;injection hg with hg;omega
 obtain⟨T1,bh,cB,bY⟩:∃ T',RX w T' (w'.setCell ⟨Q,3,none⟩ (.slice a8 (n+1) c8)) Q m (inosR D (D.inos++[i])) { x with vi:=.slice a8 (n+1) c8 }/\(∀ k,T' k->T k\/W.heap.size<=k)/\Out (fun k=>T k\/k=Q) W (w'.setCell ⟨Q,3,none⟩ (.slice a8 (n+1) c8)):=by
  refine HX.out.growInos (I:=D.inos++[i]) (v:=.slice a8 (n+1) c8) ((((Out.refl _ W).thenBelow bm.out).grown bk.out (fun k hk _=>.inr (by rw[HV.out,HN.out];exact hk))).setCell (p:=⟨Q,3,none⟩) (fun _=>.inl rfl) _) ?_ ?_ ?_ ab
  ·rw[row_set (j:=3) aJ.out (.slice a8 (n+1) c8)];unfold rdC inosR;rfl
  ·have h1:=own_same aD.out fun g hg=>set_other w' Q 3 g (.slice a8 (n+1) c8) (bl g hg);rw[ris_snoc,length_append,HN.out];exact h1
  ·rcases bp.out with h1|h1
   ·exact .inl (by rw[HV.out,HN.out];exact h1)
   ·refine .inr ⟨WA.heap.size,h1,bm.out.size,?_⟩;rw[set_size];exact(aD.out.lt _ h1).2
 clear bl aD bk bp bF aJ z0 z3 zf ct bM bm bS ck cz cx br cF bB B1 aN c0 c3 cf bb cu aX;generalize w'.setCell ⟨Q,3,none⟩ (.slice a8 (n+1) c8)=W2 at bh bY ⊢;have bz:=bh.row;unfold rdC inosR at bz;simp only at bz;obtain⟨q0,-,-,q3,-⟩:=row10 bz;have cM:=(Array.getElem?_eq_some_iff.1 bz).1;have cN:Hid (LayR W2 T1 x.an D.names):=hid bh.names;have cU:=hid bh;have dl:=hid cB;have d0:=hid bY;obtain⟨N,bQ⟩:∃ N,D.names.length=N:=⟨_,rfl⟩;rw[bQ]at q0 hl;have b5:=hid bQ;clear bz bh cB bY bQ;refine wp_region_noPanic ?_;with_reducible refine QT.region_fork (S:=fun w'=>w'.cell? ⟨Q,0,none⟩=some (.slice x.an N x.cn)/\w'.cell? ⟨Q,3,none⟩=some (.slice a8 (n+1) c8)) [0,2,3,4,5,7,8,9,10,11,12,13] 4 16 (by kernel_rfl) (by kernel_rfl) ?_ ?_ ?_
 ·exact fun _ _ _ _ _ h=>h
 ·exact⟨q0,q3⟩
 intro _;simp only[QT.pick,List.filterMap_cons,List.filterMap_nil,List.getElem?_cons_succ,List.getElem?_cons_zero,List.drop_succ_cons,drop_zero];iterate 12 (refine QT.wpTake_cons _ (by rfl) (by intro w' bW;obtain⟨y0,y1⟩:=bW;go_simp;first|done|rfl) ?_;try simp only[Act.put,setIfInBounds_toArray,set_cons_zero,set_cons_succ])
 refine QT.wpTake_nil ?_;have aG:withR D p i=chgR (inosR D (D.inos++[i])) (sortK (D.names++[en p ((n+1:Nat):Int)]) (N+1)):=by unfold withR;rw[HN.out,b5.out]
 have bj:((n+1:Nat):Int)=(n:Int)+1:=by omega
 have bD:(D.names++[en p ((n+1:Nat):Int)]).length=N+1:=by rw[length_append,b5.out];rfl
 have hS:∀ wa:World,Below W2.heap.size W2 wa->wa.cell? ⟨Q,0,none⟩=some (.slice x.an N x.cn)/\wa.cell? ⟨Q,3,none⟩=some (.slice a8 (n+1) c8):=fun wa hb=>⟨(hb.cell (p:=⟨Q,0,none⟩) cM).trans q0,(hb.cell (p:=⟨Q,3,none⟩) cM).trans q3⟩
 have bg:∀(wa:World) (ao:Option Addr) (c:Nat),Below W2.heap.size W2 wa->wa.ownsRow W2.heap.size 130 2 (.slice ao (N+1) c) (N+1) (resC D.names++reC (en p ((n+1:Nat):Int)))->Calls Tryz.prog 138 #[.pointer (some ⟨Q,0,none⟩),.slice ao (N+1) c] wa fun r W'=>r=.returned (.tuple #[])/\RAft w wa T1 Q m' (withR D p i) W':=by
  intro wa ao c hb ho;rw[<- res_snoc,← bD]at ho;obtain⟨dn,c',hv,hL⟩:=layR_own (T:=fun _=>True) ho (fun _ _=>trivial);injection hv with hv1 _ hv3;subst hv1
  have h1:=kchanged_any w wa T1 Q m m' (inosR D (D.inos++[i])) (D.names++[en p ((n+1:Nat):Int)]) ao c ⟨_,cU.out.below hb⟩ (fun _=>True) hL (by rw[bD];omega) (fun e he=>by
   rcases List.mem_append.1 he with h|h
   ·exact hp e h
   ·rw[List.mem_singleton.1 h];exact hpp) hm (by rw[bD,← aG];exact hnum2)
  rw[bD,← aG]at h1;exact h1
 have ar:∀(wa:World) (g:Nat),Below W2.heap.size W2 wa->W2.heap.size<=g->wa.ownsRow W2.heap.size 130 2 (.slice (some ⟨g,0,none⟩) 0 0) 0 []->∃(a9:Option Addr) (c9:Nat) (w5:World),(Builtin.append_ #[53,53] 53 #[.slice (some ⟨g,0,none⟩) 0 0,.slice x.an N x.cn]).run Tryz.prog wa=.ok (.slice a9 N c9) w5/\w5.ownsRow W2.heap.size 130 2 (.slice a9 N c9) N (resC D.names)/\Below W2.heap.size W2 w5/\(∀ b,b≠g->b<wa.heap.size->w5.heap[b]?=wa.heap[b]?):=by
  intro wa g hb hg ho;obtain⟨v',w5,h1,h2,h3⟩:=run_copy wa W2.heap.size T1 x.an x.cn N D.names _ (cN.out.below hb) ho hb.size (by rw[b5.out];omega) b5.out;obtain⟨a9,c9,hv,-⟩:=owns_view h2;subst hv;refine⟨a9,c9,w5,h1,h2,hb.grown h3 hb.size (fun j hj=>?_),fun b hbg hbl=>h3.block b hbl (fun e=>?_)⟩
  ·have h4:some g=some j:=hj;injection h4 with h4;omega
  ·have h4:some g=some b:=e.symm;injection h4 with h4;omega
 clear cU cN hp hpp hnum2 b7 aW b6 bI HR HX am HV ab;generalize hF:QT.Fork Tryz.prog .any _ _ _ 16 _=F
 have aS:∀(listed:Array Bool) (cR:Value) (a9:Option Addr) (c9 b2:Nat) (w3:World),Below W2.heap.size W2 w3->w3.ownsRow W2.heap.size 130 2 (.slice a9 N c9) N (resC D.names)->w3.heap[b2]?=some (.cells #[.string P,.int .i64 ((n:Int)+1)] 130 (0,0))->listed=#[true,true,true,true,true,true,true,true,true,true,true,true,true,true,true,false,false]->F 1 listed ⟨#[.pointer (some ⟨Q,0,none⟩),.string P,.agg #[.int .i64 i.kind,.int .i64 i.mode,.int .i64 i.time,.string V,.bool i.dirty],undef,undef,.pointer (some ⟨W.heap.size,0,none⟩),.pointer (some ⟨Q,0,none⟩),.pointer (some ⟨Q,0,none⟩),.pointer (some ⟨Q,0,none⟩),.pointer (some ⟨Q,3,none⟩),.slice ai n ci,.agg #[.int .i64 i.kind,.int .i64 i.mode,.int .i64 i.time,.string V,.bool i.dirty],.slice (some ⟨W1.heap.size,0,none⟩) 1 1,.slice a8 (n+1) c8,.pointer (some ⟨Q,0,none⟩),.pointer (some ⟨Q,3,none⟩),.pointer (some ⟨Q,0,none⟩),cR,.pointer (some ⟨Q,0,none⟩),.pointer (some ⟨Q,0,none⟩),.pointer (some ⟨Q,0,none⟩),.slice x.an N x.cn,.slice a9 N c9,.string P,.pointer (some ⟨Q,0,none⟩),.pointer (some ⟨Q,0,none⟩),.pointer (some ⟨Q,3,none⟩),.slice a8 (n+1) c8,.int .i64 ((n:Int)+1),.agg #[.string P,.int .i64 ((n:Int)+1)],.slice (some ⟨b2,0,none⟩) 1 1,undef,undef],[]⟩ w3:=by
  intro listed cR a9 c9 b2 w3 hb ag au dr;subst hF;subst dr;refine QT.fork_one 15 _ (by rfl) (by kernel_rfl) ?_;intro K' hK
  obtain⟨v',w4,ad,av,aw,-⟩:=run_append_own (P:=Tryz.prog) w3 W2.heap.size 53 53 130 i1 _ 2 24 Tryz.underlying53 aH ba be bd rfl (by decide) (.slice a9 N c9) N (resC D.names) ag ⟨b2,0,none⟩ 1 1 (reC (en p ((n+1:Nat):Int))) rfl (fun j u hu=>by
   have e1:(⟨b2,0,none⟩:Addr).add j=⟨b2,j,none⟩:=by simp[Addr.add];omega
   have e2:(#[.string P,.int .i64 ((n:Int)+1)]:Array Value)=(reC (en p ((n+1:Nat):Int))).toArray:=by
    unfold reC;rw[show(en p ((n+1:Nat):Int)).path=p from rfl,show(en p ((n+1:Nat):Int)).kind=(n:Int)+1 from bj,hP]
   rw[e1,cell_of_row _ _ j _ _ _ au,← hu,e2]
   simp) (re_one _) (by unfold maxLen;omega) (by omega) hb.size
  obtain⟨d3,dz,bR,-⟩:=owns_view av;subst bR;have bH:Below W2.heap.size W2 w4:=hb.grown aw hb.size (fun j hj=>(ag.lt j hj).1);refine step_app_eq rfl (.tmp 22) (.tmp 30) 53 53 rfl (.slice a9 N c9) (.slice (some ⟨b2,0,none⟩) 1 1) rfl rfl ad ?_;refine hK.out _ _ (hS _ bH) ?_;clear hK K' ad aw ag au hb;refine QT.fork_nil (by kernel_rfl) ?_;have HC:=hid (bg w4 d3 dz bH av);have cZ:=hid bH;clear av bH hS bg ar;try simp only[Act.put,setIfInBounds_toArray,set_cons_zero,set_cons_succ,List.drop_succ_cons,drop_zero]
  repeat (first|(go_at_call 138;refine HC.out.mono ?_;rintro r w6 ⟨rfl,bw⟩;simp only[];have HA:=hid bw;clear bw)|go_skip|go_guarded|go_step|go_upon)
  refine NoPanic.normal ?_;repeat (first|go_skip|go_guarded|go_step|go_upon)
  go_end0
  exact⟨rfl,RAft.chain dl.out (d0.out.thenBelow cZ.out) HA.out⟩
 subst hF;have aA:Below W2.heap.size W2 W2.drew:=(Below.refl _ _).drew;generalize W2.drew=W3 at aA ⊢;have aV:∀ wa:World,Below W2.heap.size W2 wa->(wa.alloc (.cells #[] 130)).ownsRow W2.heap.size 130 2 (.slice (some ⟨wa.heap.size,0,none⟩) 0 0) 0 []:=fun wa hb=>World.ownsRow_made (base:=W2.heap.size) (e:=130) (size:=2) wa #[] 0 hb.size (Nat.zero_le _) rfl;refine QT.fork_two 1 14 _ _ (by rfl) (by rfl) (by kernel_rfl) ?_ ?_
 ·intro K' hK;rw[if_pos (by rfl)];go_simp;have aC:=aA.alloc aA.size (.cells #[] 130);refine hK.out _ _ (hS _ aC) ?_;clear hK K';try simp only[Act.put,setIfInBounds_toArray,set_cons_zero,set_cons_succ]
  obtain⟨a9,c9,w5,ad,ah,az,bs⟩:=ar _ W3.heap.size aC aA.size (aV W3 aA);refine QT.fork_two 6 14 _ _ (by rfl) (by rfl) (by kernel_rfl) ?_ ?_
  ·intro K' hK;refine step_app_eq rfl (.tmp 17) (.tmp 21) 53 53 rfl (.slice (some ⟨W3.heap.size,0,none⟩) 0 0) (.slice x.an N x.cn) rfl rfl ad ?_;refine hK.out _ _ (hS _ az) ?_;clear hK K';try simp only[Act.put,setIfInBounds_toArray,set_cons_zero,set_cons_succ]
   refine QT.fork_one 14 _ (by rfl) (by kernel_rfl) ?_;intro K' hK;rw[if_pos (by rfl)];go_simp;have cP:=az.alloc az.size (.cells #[.string P,.int .i64 ((n:Int)+1)] 130);refine hK.out _ _ (hS _ cP) ?_;clear hK K';try simp only[Act.put,setIfInBounds_toArray,set_cons_zero,set_cons_succ]
   exact aS _ _ a9 c9 _ _ cP (ah.alloc _) (heap_alloc_new w5 _) (by kernel_rfl)
  ·intro K' hK;clear ad ah az bs;rw[if_pos (by rfl)];go_simp;have bi:=aC.alloc aC.size (.cells #[.string P,.int .i64 ((n:Int)+1)] 130);refine hK.out _ _ (hS _ bi) ?_;clear hK K';try simp only[Act.put,setIfInBounds_toArray,set_cons_zero,set_cons_succ]
   have cp:=heap_alloc_new (W3.alloc (.cells #[] 130)) (.cells #[.string P,.int .i64 ((n:Int)+1)] 130);obtain⟨a9,c9,w5,ad,ah,az,bs⟩:=ar _ W3.heap.size bi aA.size ((aV W3 aA).alloc _);have bJ:=(bs _ (by simp) (by simp)).trans cp;rw[World.size_alloc]at bJ;refine QT.fork_one 6 _ (by rfl) (by kernel_rfl) ?_;intro K' hK;refine step_app_eq rfl (.tmp 17) (.tmp 21) 53 53 rfl (.slice (some ⟨W3.heap.size,0,none⟩) 0 0) (.slice x.an N x.cn) rfl rfl ad ?_;refine hK.out _ _ (hS _ az) ?_;clear hK K';try simp only[Act.put,setIfInBounds_toArray,set_cons_zero,set_cons_succ]
   exact aS _ _ a9 c9 _ _ az ah bJ (by kernel_rfl)
 ·intro K' hK;rw[if_pos (by rfl)];go_simp;have aC:=aA.alloc aA.size (.cells #[.string P,.int .i64 ((n:Int)+1)] 130);have dv:=heap_alloc_new W3 (.cells #[.string P,.int .i64 ((n:Int)+1)] 130);refine hK.out _ _ (hS _ aC) ?_;clear hK K';try simp only[Act.put,setIfInBounds_toArray,set_cons_zero,set_cons_succ]
  refine QT.fork_one 1 _ (by rfl) (by kernel_rfl) ?_;intro K' hK;rw[if_pos (by rfl)];go_simp;have bi:=aC.alloc aC.size (.cells #[] 130);have cp:=old_row (o:=.cells #[] 130) dv;have cD:=aV _ aC;rw[World.size_alloc]at cD;refine hK.out _ _ (hS _ bi) ?_;clear hK K';try simp only[Act.put,setIfInBounds_toArray,set_cons_zero,set_cons_succ]
  obtain⟨a9,c9,w5,ad,ah,az,bs⟩:=ar _ _ bi (by have:=aA.size;omega) cD;have bJ:=(bs _ (by simp) (by simp;omega)).trans cp;refine QT.fork_one 6 _ (by rfl) (by kernel_rfl) ?_;intro K' hK;refine step_app_eq rfl (.tmp 17) (.tmp 21) 53 53 rfl (.slice (some ⟨W3.heap.size+1,0,none⟩) 0 0) (.slice x.an N x.cn) rfl rfl ad ?_;refine hK.out _ _ (hS _ az) ?_;clear hK K';try simp only[Act.put,setIfInBounds_toArray,set_cons_zero,set_cons_succ]
  exact aS _ _ a9 c9 _ _ az ah bJ (by kernel_rfl)
end RK
end
end Go.Proofs.YtkmcjededpamnaaGreatDoor
