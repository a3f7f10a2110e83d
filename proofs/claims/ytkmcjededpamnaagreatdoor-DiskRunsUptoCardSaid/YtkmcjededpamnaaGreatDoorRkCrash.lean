import Derived.Test.YtkmcjededpamnaaGreatDoorMg24
import Derived.BigRegion
import Derived.Lib.MinMax
set_option linter.all false
set_option maxRecDepth 100000
set_option maxHeartbeats 0
namespace Go.Proofs.YtkmcjededpamnaaGreatDoor
open List(set_cons_zero set_cons_succ setIfInBounds_toArray length_take length_map drop_zero map_nil)
open Go.RowKit Go.Lib Go.BigFrame
namespace RK
open OM TP TM DP DM FP DG TG TR
theorem step_max{P:Program}{w:World}{o:Oper}{a:Act}(hgd:o.guard=none)(s x:Operand)(t t2:TypeId)(ho:o.op=.call { callee:=.builtin .max,args:=#[s,x],argTypes:=#[t,t2] }){k k2:IntKind}{u v:Int}(hs:a.eval s=.int k u)(hx:a.eval x=.int k2 v) :
  (execOp a.eval o).run P w=.ok (.value (.int k (max u v))) w:=by
 unfold execOp;simp only[ho,resolve,invoke,builtin,Sem.run_bind,Sem.run_pure,Result.andThen_ok,List.map_toArray,List.map_cons,map_nil,hs,hx,Lib.run_max_ints]
theorem step_min{P:Program}{w:World}{o:Oper}{a:Act}(hgd:o.guard=none)(s x:Operand)(t t2:TypeId)(ho:o.op=.call { callee:=.builtin .min,args:=#[s,x],argTypes:=#[t,t2] }){k k2:IntKind}{u v:Int}(hs:a.eval s=.int k u)(hx:a.eval x=.int k2 v) :
  (execOp a.eval o).run P w=.ok (.value (.int k (min u v))) w:=by
 unfold execOp;simp only[ho,resolve,invoke,builtin,Sem.run_bind,Sem.run_pure,Result.andThen_ok,List.map_toArray,List.map_cons,map_nil,hs,hx,Lib.run_min_ints]
theorem wpList_app_eq{P:Program}{w:World}{ops:Array Oper}{rest:List Oper}{o:Oper}{a:Act}{Q:Exit->Act->World->Prop}(hgd:o.guard=none)(s x:Operand)(t t2:TypeId)
  (ho:o.op=.call { callee:=.builtin .append,args:=#[s,x],argTypes:=#[t,t2] }) (u v:Value) (hs:a.eval s=u) (hx:a.eval x=v) {v':Value} {w':World}
  (hr:(Builtin.append_ #[t,t2] o.type #[u,v]).run P w=.ok v' w') (h:wpList P ops Q rest (a.put o.dst v') w'):wpList P ops Q (o::rest) a w:=by
 refine wpList_plain hgd fun K hK=>?_;unfold Oper.wp;simp[execOp,ho,resolve,invoke,builtin,hs,hx,hr,Result.andThen];exact hK _ _ h
theorem run_copyI(W:World)(base:Nat)(ai:Option Addr)(ci n:Nat)(I:List Ino)(v:Value)(hi:W.ownsRow 0 128 5 (.slice ai n ci) n (risC I))(aj:W.ownsRow base 128 5 v 0 [])(hb:base<=W.heap.size)(hn:n*48<=140737488355328) :
  ∃ v' w',(Builtin.append_ #[55,55] 55 #[v,.slice ai n ci]).run Tryz.prog W=.ok v' w'/\w'.ownsRow base 128 5 v' n (risC I)/\W.grownBy w' v.ownBlock:=by
 obtain⟨i0,ba,bv,br,b2⟩:=info_parts infoRI;obtain⟨ao,c,hv,hx⟩:=owns_view hi;injection hv with hv1 _ hv3;subst hv1;have bb:=hi.1;by_cases h0:0<n
 ·obtain⟨g,e,bq,-,hc⟩:=hx h0;subst e
  obtain⟨v',w',h1,h2,h3,-⟩:=run_append_own (P:=Tryz.prog) W base 55 55 128 i0 _ 5 48 Tryz.underlying55 ba bv br b2 rfl (by decide) v 0 [] aj ⟨g,0,none⟩ n ci (risC I) bb (fun j u hu=>by
   have hj:=(List.getElem?_eq_some_iff.1 hu).1;have e1:(⟨g,0,none⟩:Addr).add j=⟨g,j,none⟩:=by simp[Addr.add];omega
   rw[e1]
   exact(hc j (by omega)).trans hu) (ris_one I) (by unfold maxLen;omega) (by omega) hb
  rw[Nat.zero_add,List.nil_append]at h2;exact⟨v',w',h1,h2,h3⟩
 ·obtain rfl:n=0:=by omega
  have hI:risC I=[]:=List.length_eq_zero_iff.1 (by rw[bb]);rw[hI]
  cases ai with
  | some a0 =>
   obtain⟨v',w',h1,h2,h3,-⟩:=run_append_own (P:=Tryz.prog) W base 55 55 128 i0 _ 5 48 Tryz.underlying55 ba bv br b2 rfl (by decide) v 0 [] aj a0 0 ci [] rfl (fun j u hu=>by simp at hu) (fun u hu=>by simp at hu) (by unfold maxLen;omega) (by omega) hb;exact⟨v',w',h1,h2,h3⟩
  | none =>
   refine⟨v,W,?_,aj,⟨rfl,rfl,rfl,Nat.le_refl _,fun _ _ _=>rfl⟩⟩;rcases aj.2 with ⟨rfl,h4⟩|⟨g,bO,b9,rfl,_,_,bS,_⟩
   ·simp[Builtin.append_,run_underlying Tryz.underlying55,sizeOf,typeInfo,ba,Builtin.lenOf,Builtin.firstCells]
   ·simp[Builtin.append_,run_underlying Tryz.underlying55,sizeOf,typeInfo,ba,Builtin.lenOf,Builtin.firstCells,bS,storeCells]
theorem ris_clean{L:List Ino}{a:Nat}{i:Ino}(hi:L[a]?=some i)(d:List UInt8)(b:Bool):((risC L).set (a*5+3) (txt d)).set (a*5+4) (.bool b)=risC (L.set a { i with data:=d,dirty:=b }):=by
 have ha:=(List.getElem?_eq_some_iff.1 hi).1;have hl:=ris_len L;apply List.ext_getElem?;intro j;rw[ris_set L a _ ha j];by_cases h4:j=a*5+4
 ·subst h4;rw[List.getElem?_set_self (by rw[List.length_set];omega),if_pos (by omega),show a*5+4-a*5=4 by omega];rfl
 ·rw[List.getElem?_set_ne (by omega)];by_cases h3:j=a*5+3
  ·subst h3;rw[List.getElem?_set_self (by omega),if_pos (by omega),show a*5+3-a*5=3 by omega];rfl
  ·rw[List.getElem?_set_ne (by omega)];split
   ·obtain⟨r,e,hr⟩:∃ r,j=a*5+r/\r<3:=⟨j-a*5,by omega,by omega⟩;subst e;rw[ris_at L a i r hi (by omega),show a*5+r-a*5=r by omega];rcases (by omega:r=0\/r=1\/r=2)with rfl|rfl|rfl<;>rfl
   ·rfl
def cleanL(torn:Int)(I:List Ino)(k:Nat):List Ino:=(I.take k).map (clean torn)++I.drop k
theorem cleanL_zero(torn:Int)(I:List Ino):cleanL torn I 0=I:=by unfold cleanL;simp
theorem cleanL_all(torn:Int)(I:List Ino):cleanL torn I I.length=I.map (clean torn):=by unfold cleanL;simp
theorem cleanL_len(torn:Int)(I:List Ino)(k:Nat):(cleanL torn I k).length=I.length:=by unfold cleanL;rw[List.length_append,length_map,length_take,List.length_drop];omega
theorem cleanL_at{torn:Int}{I:List Ino}{k:Nat}{i:Ino}(h:I[k]?=some i):(cleanL torn I k)[k]?=some i:=by
 have hk:=(List.getElem?_eq_some_iff.1 h).1;unfold cleanL;rw[List.getElem?_append_right (by rw[length_map,length_take];omega),length_map,length_take,List.getElem?_drop,← h];congr 1;omega
theorem cleanL_succ{torn:Int}{I:List Ino}{k:Nat}{i:Ino}(h:I[k]?=some i):cleanL torn I (k+1)=(cleanL torn I k).set k (clean torn i):=by
 have hk:=(List.getElem?_eq_some_iff.1 h).1;have hl:((I.take k).map (clean torn)).length=k:=by rw[length_map,length_take];omega
 unfold cleanL;rw[List.set_append_right _ _ (by omega),hl,Nat.sub_self,List.drop_eq_getElem_cons hk,set_cons_zero,List.take_add_one,h,List.map_append,List.append_assoc];rfl
theorem RX.crashed{w W W':World}{T:Nat->Prop}{Q m:Nat}{D:Dk}{x:RP}{L:List Nd}{aN:Option Addr}{cN:Nat}{I:List Ino}{v:Value}(h:RX w T W Q m D x)(ho:Out (fun k=>k=Q) W W')
  (aa:W'.heap[Q]?=some (.cells #[.slice aN L.length cN,.slice aN L.length cN,.slice none 0 0,v,.bool true,.int .i64 (D.trace.length:Nat),.int .i64 (D.clock:Nat),x.vt,.slice x.af D.fates.length x.cf,.slice x.ae D.edits.length x.ce] 57 (0,0)))
  (hL:LayR W T aN L) (hi:W'.ownsRow 0 128 5 v I.length (risC I)) (hgi:∀ g,v.ownBlock=some g->W.heap.size<=g/\g<W'.heap.size) (aB:I.length=D.inos.length):RAft w W T Q m { D with names:=L,safe:=L,later:=[],inos:=I,off:=true } W':=by
 have hk:∀ k,T k->W'.heap[k]?=W.heap[k]?:=fun k hk=>ho.block k (h.lt k hk) (fun e=>h.np (e ▸ hk));have hQ:=(Array.getElem?_eq_some_iff.1 h.row).1;have aA:LayR W' (fun k=>T k\/v.ownBlock=some k) aN L:=(hL.same ho.size (fun g hg _=>hk g hg)).sup (fun _=>.inl);have hn:=h.num;refine⟨fun k=>T k\/v.ownBlock=some k,⟨{ x with an:=aN,cn:=cN,as_:=aN,cs:=cN,vl:=.slice none 0 0,ls:=[],vi:=v },⟨aa,aA,aA,⟨rfl,.inl ⟨rfl,rfl⟩⟩,rfl,(fun g hg=>by cases hg),(fun j a l h1 h2=>by cases h1),hi,(fun g hg=>.inr hg),own_same h.trace (fun g hg=>hk g (h.tin g hg)),(fun g hg=>.inl (h.tin g hg)),h.fates,h.edits,h.epath,fun k hk2=>?_,h.ql,fun k hk2=>?_,?_,?_,⟨hn.clock,hn.trace,Nat.zero_le _,by show I.length<=_;rw[aB];exact hn.inos,hn.edits,hn.path,hn.long⟩⟩⟩,fun k hk2=>?_,ho.mono (fun _ _ h=>.inr h)⟩
 ·rcases hk2 with h1|h1
  ·exact h.lo k h1
  ·exact Nat.le_trans h.bel.size (hgi k h1).1
 ·rcases hk2 with h1|h1
  ·exact Nat.lt_of_lt_of_le (h.lt k h1) ho.size
  ·exact(hgi k h1).2
 ·rintro (h1|h1)
  ·exact h.np h1
  ·have:=(hgi Q h1).1;omega
 ·exact((Out.of_below h.bel).then ho (fun j _ hj=>by rw[show j=Q from hj];exact h.ql)).below (fun k hk _ h2=>by omega) (Nat.le_refl _)
 ·rcases hk2 with h1|h1
  ·exact .inl h1
  ·exact .inr (hgi k h1).1
theorem own_zero{w:World}{B t size n:Nat}{v:Value}{xs:List Value}(h:w.ownsRow B t size v n xs):w.ownsRow 0 t size v n xs:=by
 refine⟨h.1,?_⟩;rcases h.2 with h1|⟨g,c,b9,h1,_,h3⟩
 ·exact .inl h1
 ·exact .inr ⟨g,c,b9,h1,Nat.zero_le _,h3⟩
theorem kcrash_any(w W:World)(T:Nat->Prop)(Q m:Nat)(D:Dk)(f:Fate)(h:RS w W T Q m D)(hf:Fit D)(hm:m<=1000) :
  Calls Tryz.prog 177 #[.pointer (some ⟨Q,0,none⟩),.agg #[.int .i64 f.at_,.int .i64 f.what,.int .i64 f.keep,.int .i64 f.torn]] W fun r W'=>r=.returned (.tuple #[])/\RAft w W T Q m (crashD D f.keep f.torn) W':=by
 obtain⟨i0,ba,bv,br,b2⟩:=info_parts infoRI;obtain⟨x,hx⟩:=h;have HX:=hid hx;have hr:=hx.row;have bq:=(Array.getElem?_eq_some_iff.1 hr).1;have bA:=num_inos hx.num hm;have bT:=hx.num.later;obtain⟨at_,what,keep,torn⟩:=f;simp only;obtain⟨vl,a2⟩:∃ v,x.vl=v:=⟨_,rfl⟩;have aC:=hx.later;rw[a2]at aC;obtain⟨al,cl,bt,-⟩:=owns_view aC;subst bt;have aR:=hx.inos;obtain⟨n,hn⟩:∃ n,D.inos.length=n:=⟨_,rfl⟩;rw[hn]at aR bA;obtain⟨vi,bi⟩:∃ v,x.vi=v:=⟨_,rfl⟩;rw[bi]at aR;obtain⟨ai,ci,bo,-⟩:=owns_view aR;subst bo;have bR:=hid aR;have HN:=hid hn;have bJ:=hid bi;unfold rdC at hr;rw[bi]at hr;rw[a2]at hr;have HR:=hid hr;obtain⟨nl,bh⟩:∃ n,D.later.length=n:=⟨_,rfl⟩;rw[bh]at hr bT;obtain⟨-,c1,c2,-,-,-,-,-,-,-,cf⟩:=row10 hr;have bF:=hid a2;have bj:=hid bh;have hK:Hid (keepN D keep=min keep.toNat nl):=hid (by unfold keepN;rw[bh]);obtain⟨kn,bD⟩:∃ k,min keep.toNat nl=k:=⟨_,rfl⟩;rw[bD]at hK;obtain⟨kk,bK⟩:∃ k,keep.toNat=k:=⟨_,rfl⟩;have bM:max keep 0=(kk:Int):=by omega
 have bU:min (kk:Int) (nl:Int)=(kn:Int):=by omega
 clear bK bD;have b1:Below W.heap.size W (W.alloc (.cells #[.int .i64 at_,.int .i64 what,.int .i64 keep,.int .i64 torn] 116)):=(Below.refl _ _).alloc (Nat.le_refl _) _;have RB:=heap_alloc_new W (.cells #[.int .i64 at_,.int .i64 what,.int .i64 keep,.int .i64 torn] 116);have w2:=(b1.cell (p:=⟨Q,2,none⟩) bq).trans c2;obtain⟨W1,bl⟩:∃ W1,(W.alloc (.cells #[.int .i64 at_,.int .i64 what,.int .i64 keep,.int .i64 torn] 116))=W1:=⟨_,rfl⟩;have aG:W.heap.size<W1.heap.size:=by rw[<- bl];simp
 rw[bl]at b1 RB w2;obtain⟨t0,t1,t2,t3,-⟩:=row4 RB;have f2:=cell_regrown w2;have g2:=cell_regrown t2;have B1:=hid b1;have bG:=hid RB;clear hx hf hr a2 aC bh RB b1 aR hn bi;go_enter Tryz.func177,Tryz.ntmps177;repeat (first|go_skip|go_guarded|go_step|go_upon)
 try rw[bl]
 clear bl;clear f2 g2;refine wp_region_noPanic ?_;with_reducible refine QT.region_pick (S:=fun w'=>w'.cell? ⟨W.heap.size,2,none⟩=some (.int .i64 keep)/\w'.cell? ⟨Q,2,none⟩=some (.slice al nl cl)) [0,1,2,3,4,5,6,7,8] [] 9 (by kernel_rfl) (by kernel_rfl) ?_ ?_ ?_
 ·exact fun _ _ _ _ _ h=>h
 ·exact⟨t2,w2⟩
 intro _;simp only[QT.pick,List.filterMap_cons,List.filterMap_nil,List.getElem?_cons_succ,List.getElem?_cons_zero,List.drop_succ_cons,drop_zero];iterate 2 (refine QT.wpTake_cons _ (by rfl) (by intro w' ab;obtain⟨y0,y1⟩:=ab;go_simp;first|done|rfl) ?_;try simp only[Act.put,setIfInBounds_toArray,set_cons_zero,set_cons_succ])
 refine QT.wpTake_cons _ (by rfl) (fun w' ab=>step_max rfl (.tmp 8) (.const (.int .i64 0)) 3 3 rfl rfl rfl) ?_;try simp only[Act.put,setIfInBounds_toArray,set_cons_zero,set_cons_succ,bM]
 iterate 5 (refine QT.wpTake_cons _ (by rfl) (by intro w' ab;obtain⟨y0,y1⟩:=ab;go_simp;first|done|rfl) ?_;try simp only[Act.put,setIfInBounds_toArray,set_cons_zero,set_cons_succ])
 refine QT.wpTake_cons _ (by rfl) (fun w' ab=>step_min rfl (.tmp 9) (.tmp 14) 3 3 rfl rfl rfl) ?_;try simp only[Act.put,setIfInBounds_toArray,set_cons_zero,set_cons_succ,bU]
 refine QT.wpTake_nil ?_;refine QT.wpDo_nil ?_;repeat (first|go_skip|go_guarded|go_step|go_upon)
 refine NoPanic.normal ?_;have B2:Hid (Below W.heap.size W W1.drew):=hid B1.out.drew;have b5:Hid (W1.drew.heap[W.heap.size]?=some (.cells #[.int .i64 at_,.int .i64 what,.int .i64 keep,.int .i64 torn] 116 (0,0))):=hid bG.out;have am:W.heap.size<W1.drew.heap.size:=aG;clear t0 t1 t2 t3 w2 c1 c2 cf B1 bG aG;generalize W1.drew=w2 at B2 b5 am ⊢
 have aI:Hid (w2.heap[Q]?=some (.cells #[.slice x.an D.names.length x.cn,.slice x.as_ D.safe.length x.cs,.slice al nl cl,.slice ai n ci,.bool D.off,.int .i64 (D.trace.length:Nat),.int .i64 (D.clock:Nat),x.vt,.slice x.af D.fates.length x.cf,.slice x.ae D.edits.length x.ce] 57 (0,0))):=hid (by
  have h1:=(B2.out.block Q bq).trans HR.out;rw[bj.out]at h1
  exact h1)
 obtain⟨c0,c1,c2,c3,-,-,-,-,-,-,cf⟩:=row10 aI.out;have a4:Q<w2.heap.size:=by omega
 have aM:∀(wr:World) (b:Nat) (aN:Option Addr) (cN LN:Nat),wr.heap.size=b->wr.heap[Q]?=some (.cells #[.slice aN LN cN,.slice aN LN cN,.slice none 0 0,.slice ai n ci,.bool D.off,.int .i64 (D.trace.length:Nat),.int .i64 (D.clock:Nat),x.vt,.slice x.af D.fates.length x.cf,.slice x.ae D.edits.length x.ce] 57 (0,0))->Out (fun k=>k=Q) W wr->∃(a5:Option Addr) (c5:Nat) (w5:World),(Builtin.append_ #[55,55] 55 #[.slice (some ⟨b,0,none⟩) 0 0,.slice ai n ci]).run Tryz.prog (wr.alloc (.cells #[] 128))=.ok (.slice a5 n c5) w5/\w5.ownsRow b 128 5 (.slice a5 n c5) n (risC D.inos)/\Below b wr w5:=by
  intro wr b aN cN LN hb aa ho;subst hb;have h1:=(ho.owns bR.out (fun g hg e=>HX.out.np (e ▸ HX.out.iin g (by rw[bJ.out];exact hg)))).alloc (.cells #[] 128);have h2:=World.ownsRow_made (base:=wr.heap.size) (e:=128) (size:=5) wr #[] 0 (Nat.le_refl _) (Nat.zero_le _) rfl;obtain⟨v',w5,ad,aj,hg⟩:=run_copyI (wr.alloc (.cells #[] 128)) wr.heap.size ai ci n D.inos _ h1 h2 (by simp) bA;obtain⟨a5,c5,hv,-⟩:=owns_view aj;subst hv;refine⟨a5,c5,w5,ad,aj,((Below.refl _ _).alloc (Nat.le_refl _) _).grown hg (by simp) (fun j hj=>?_)⟩;have h4:some wr.heap.size=some j:=hj;injection h4 with h4;omega
 obtain⟨L,b8⟩:∃ L,keptD D keep=L:=⟨_,rfl⟩;have bk:=hid b8;have aE:W.heap.size≠Q:=by omega
 clear b8;by_cases hk0:kn=0
 ·have b3:¬(0:Int)<(kn:Int):=by omega
  have bs:decide ((0:Int)<(kn:Int))=false:=by simpa using b3
  obtain⟨aN,a9⟩:∃ a,x.as_=a:=⟨_,rfl⟩;obtain⟨cN,aU⟩:∃ a,x.cs=a:=⟨_,rfl⟩;obtain⟨LN,a7⟩:∃ a,D.safe.length=a:=⟨_,rfl⟩
  have aW:Hid (L.length=LN/\LayR W T aN L):=hid (by
   have h1:keptD D keep=D.safe:=by unfold keptD;rw[hK.out,if_pos hk0]
   rw[bk.out]at h1;subst h1
   exact⟨a7,by rw[<- a9];exact HX.out.safe⟩)
  have aF:=aI.out;rw[a9,aU,a7]at aF c1;have aa:=row_set (j:=2) (row_set (j:=1) (row_set (j:=0) aF (.slice aN LN cN)) (.slice aN LN cN)) (.slice none 0 0);have ag:Out (fun k=>k=Q) W (((w2.setCell ⟨Q,0,none⟩ (.slice aN LN cN)).setCell ⟨Q,1,none⟩ (.slice aN LN cN)).setCell ⟨Q,2,none⟩ (.slice none 0 0)):=((((Out.refl (fun k=>k=Q) W).thenBelow B2.out).setCell (p:=⟨Q,0,none⟩) (fun _=>rfl) _).setCell (p:=⟨Q,1,none⟩) (fun _=>rfl) _).setCell (p:=⟨Q,2,none⟩) (fun _=>rfl) _;have bd:=(set_other _ Q 2 W.heap.size (.slice none 0 0) aE).trans ((set_other _ Q 1 W.heap.size (.slice aN LN cN) aE).trans ((set_other _ Q 0 W.heap.size (.slice aN LN cN) aE).trans b5.out));clear aF a9 aU a7 hk0 aI;obtain⟨a5,c5,w5,ad,ac,aJ⟩:=aM (((w2.setCell ⟨Q,0,none⟩ (.slice aN LN cN)).setCell ⟨Q,1,none⟩ (.slice aN LN cN)).setCell ⟨Q,2,none⟩ (.slice none 0 0)) w2.heap.size aN cN LN (by simp only[set_size]) aa ag;have ap:=hid aa;have au:=hid ag;have aK:=hid bd;have bu:=hid ac;have ak:=hid aJ;clear aa ag bd ac aJ
  repeat (first
   | (at_builtin;refine wpList_app_eq rfl (.tmp 46) (.tmp 50) 55 55 rfl (.slice (some ⟨w2.heap.size,0,none⟩) 0 0) (.slice ai n ci) rfl rfl ad ?_)
   | go_skip|go_guarded|go_step|go_upon)
  clear ad;have HZ:Hid ((((w2.setCell ⟨Q,0,none⟩ (.slice aN LN cN)).setCell ⟨Q,1,none⟩ (.slice aN LN cN)).setCell ⟨Q,2,none⟩ (.slice none 0 0)).heap.size=w2.heap.size):=hid (by simp only[set_size]);generalize (((w2.setCell ⟨Q,0,none⟩ (.slice aN LN cN)).setCell ⟨Q,1,none⟩ (.slice aN LN cN)).setCell ⟨Q,2,none⟩ (.slice none 0 0))=wz at HZ ap au aK ak;have aV:=(ak.out.block Q a4).trans ap.out;have bc:=(ak.out.block W.heap.size am).trans aK.out;obtain⟨-,-,-,t3,-⟩:=row4 bc;have bz:=hid t3;have aZ:=hid aV;clear aV bc t3 c0 c1 c2 c3 cf
  go_loopw [6] (fun s6 wi=>∃ a:Nat,s6=.int .i64 a/\a<=n/\wi.ownsRow w2.heap.size 128 5 (.slice a5 n c5) n (risC (cleanL torn D.inos a))/\Below w2.heap.size w5 wi) (fun s6 _=>n-(RowKit.intOf s6).toNat)
  case atStart=>exact⟨0,rfl,Nat.zero_le _,by rw[cleanL_zero];exact bu.out,Below.refl _ _⟩
  case round =>
   obtain⟨a,rfl,ha,ay,aq⟩:=hrel;have ah:=hid ay;have ar:=hid aq;have bp:=aq.size;by_cases hla:a<n
   ·have aD:(a:Int)<(n:Int):=by omega
    obtain⟨i,hi⟩:∃ i,D.inos[a]?=some i:=⟨_,List.getElem?_eq_getElem (by rw[HN.out];exact hla)⟩;have HI:=hid hi;have ax:=cleanL_at (torn:=torn) hi;obtain⟨ao,c',hv,a3⟩:=owns_view ay;obtain⟨g,hg,bI,aQ,-⟩:=a3 (by omega);injection hv with hv1 _ hv3;rw[hg]at hv1;subst hv1;clear a3 hv3 hg;obtain⟨s3,be⟩:=own_cell ah.out (show(risC (cleanL torn D.inos a))[a*5+3]?=some (txt i.data) from ris_at _ a i 3 ax (by omega));obtain⟨s4,bf⟩:=own_cell ah.out (show(risC (cleanL torn D.inos a))[a*5+4]?=some (.bool i.dirty) from ris_at _ a i 4 ax (by omega));obtain⟨V,hV,bg⟩:=txt_of i.data;rw[hV]at s3;have aH:=hid bg;have HV:=hid hV;have aw:=hid ax;have t3:=(aq.cell (p:=⟨W.heap.size,3,none⟩) am).trans bz.out;clear ay aq hi ax hV bg hla;by_cases hd:i.dirty=true
    ·rw[hd]at s4;have HD:=hid hd;clear hd;obtain⟨tk,aP⟩:∃ k,torn.toNat=k:=⟨_,rfl⟩;have a6:max torn 0=(tk:Int):=by omega
     obtain⟨q,hq⟩:∃ q,min tk V.size=q:=⟨_,rfl⟩;have a8:min (tk:Int) (V.size:Int)=(q:Int):=by omega
     have bL:q<=V.size:=by omega
     have b6:(q:Int)<=(V.size:Int):=by omega
     have bQ:(0:Int)<=(q:Int):=by omega
     have bw:=hid aP;have bm:=hid hq;clear aP hq;repeat (first|go_skip|go_guarded|go_step|go_upon)
     refine wp_region_noPanic ?_;with_reducible refine QT.region_pick (S:=fun w'=>w'.cell? ⟨g,a*5+3,none⟩=some (.string V)/\w'.cell? ⟨W.heap.size,3,none⟩=some (.int .i64 torn)) [0,1,2,3,4,5,6,7,8,9,10,11,12,13,14,15,16,17] [] 18 (by kernel_rfl) (by kernel_rfl) ?_ ?_ ?_
     ·exact fun _ _ _ _ _ h=>h
     ·exact⟨s3,t3⟩
     intro _;simp only[QT.pick,List.filterMap_cons,List.filterMap_nil,List.getElem?_cons_succ,List.getElem?_cons_zero,List.drop_succ_cons,drop_zero];iterate 9 (refine QT.wpTake_cons _ (by rfl) (by intro w' ab;obtain⟨y0,y1⟩:=ab;go_simp;first|done|rfl) ?_;try simp only[Act.put,setIfInBounds_toArray,set_cons_zero,set_cons_succ])
     refine QT.wpTake_cons _ (by rfl) (fun w' ab=>step_max rfl (.tmp 71) (.const (.int .i64 0)) 3 3 rfl rfl rfl) ?_;try simp only[Act.put,setIfInBounds_toArray,set_cons_zero,set_cons_succ,a6]
     iterate 6 (refine QT.wpTake_cons _ (by rfl) (by intro w' ab;obtain⟨y0,y1⟩:=ab;go_simp;first|done|rfl) ?_;try simp only[Act.put,setIfInBounds_toArray,set_cons_zero,set_cons_succ])
     refine QT.wpTake_cons _ (by rfl) (fun w' ab=>step_min rfl (.tmp 72) (.tmp 78) 3 3 rfl rfl rfl) ?_;try simp only[Act.put,setIfInBounds_toArray,set_cons_zero,set_cons_succ,a8]
     refine QT.wpTake_cons _ (by rfl) (by intro w' ab;obtain⟨y0,y1⟩:=ab;go_simp;first|done|rfl) ?_;try simp only[Act.put,setIfInBounds_toArray,set_cons_zero,set_cons_succ]
     refine QT.wpTake_nil ?_;refine QT.wpDo_nil ?_;have az:=hid (owns_below ah.out ((Below.refl _ _).drew (B:=wr.heap.size)));have aO:Hid (Below w2.heap.size w5 wr.drew):=hid ar.out.drew;clear s3 s4 be bf t3;generalize wr.drew=wq at az aO ⊢;obtain⟨s3,be⟩:=own_cell az.out (show(risC (cleanL torn D.inos a))[a*5+3]?=some (txt i.data) from ris_at _ a i 3 aw.out (by omega));obtain⟨s4,bf⟩:=own_cell az.out (show(risC (cleanL torn D.inos a))[a*5+4]?=some (.bool i.dirty) from ris_at _ a i 4 aw.out (by omega));rw[HV.out]at s3
     have av:Hid (((wq.setCell ⟨g,a*5+3,none⟩ (.string (V.extract 0 q))).setCell ⟨g,a*5+4,none⟩ (.bool false)).ownsRow w2.heap.size 128 5 (.slice (some ⟨g,0,none⟩) n c5) n (risC (cleanL torn D.inos (a+1)))):=hid (by
      have hr:=own_set (own_set az.out (by omega) (a*5+3) (.string (V.extract 0 q))) (by omega) (a*5+4) (.bool false);have a2:V.size=i.data.length:=by rw[<- aH.out];simp
      have aS:txt (i.data.take torn.toNat)=.string (V.extract 0 q):=by
       obtain⟨V2,h1,h2⟩:=txt_of (i.data.take torn.toNat);rw[h1];congr 1;apply ByteArray.ext;apply Array.ext';rw[h2,Lib.extract_from_zero,aH.out,bw.out,← bm.out,a2];rw[List.take_eq_take_min]
      rw[<- aS,ris_clean aw.out,aS]at hr;rw[cleanL_succ HI.out,show clean torn i={ i with data:=i.data.take torn.toNat,dirty:=false } from by unfold clean;rw[if_pos HD.out]]
      exact hr)
     have b4:Hid (Below w2.heap.size w5 ((wq.setCell ⟨g,a*5+3,none⟩ (.string (V.extract 0 q))).setCell ⟨g,a*5+4,none⟩ (.bool false))):=hid ((aO.out.setCell (p:=⟨g,a*5+3,none⟩) aQ _).setCell (p:=⟨g,a*5+4,none⟩) aQ _);repeat (first|go_skip|go_guarded|go_step|go_upon)
     refine NoPanic.normal ?_;repeat (first|go_skip|go_guarded|go_step|go_upon)
     exact⟨⟨a+1,by go_num,by omega,av.out,b4.out⟩,by simp[RowKit.intOf];omega⟩
    ·have aL:i.dirty=false:=by simpa using hd
     rw[aL]at s4
     have HS:Hid (cleanL torn D.inos (a+1)=cleanL torn D.inos a):=hid (by
      rw[cleanL_succ HI.out,show clean torn i=i from by unfold clean;rw[if_neg hd]];obtain⟨hk,e⟩:=List.getElem?_eq_some_iff.1 aw.out
      exact(congrArg _ e.symm).trans (List.set_getElem_self hk))
     clear hd aL;repeat (first|go_skip|go_guarded|go_step|go_upon)
     exact⟨⟨a+1,by go_num,by omega,by rw[HS.out];exact ah.out,ar.out⟩,by simp[RowKit.intOf];omega⟩
   ·have aD:¬(a:Int)<(n:Int):=by omega
    obtain⟨-,-,-,p3,p4,-,-,-,-,-,pf⟩:=row10 ((ar.out.block Q a4).trans aZ.out);have bH:Q<wr.heap.size:=Nat.lt_of_lt_of_le a4 (Nat.le_trans (Nat.le_trans (Nat.le_of_eq HZ.out.symm) ak.out.size) bp);have bx:a=n:=by omega
    clear ay aq hla;repeat (first|go_skip|go_guarded|go_step|go_upon)
    go_end0
    refine⟨rfl,?_⟩;have aB:(cleanL torn D.inos a).length=n:=by rw[cleanL_len,HN.out]
    have b7:crashD D keep torn={ D with names:=L,safe:=L,later:=[],inos:=cleanL torn D.inos a,off:=true }:=by
     unfold crashD;rw[bk.out,bx,← HN.out,cleanL_all]
    have aX:∀ g,(Value.slice a5 n c5).ownBlock=some g->g≠Q:=fun g hg e=>by
     have:=(ah.out.lt g hg).1;omega
    rw[b7];refine HX.out.crashed (aN:=aN) (cN:=cN) (v:=.slice a5 n c5) (((au.out.thenBelow ((Below.trans ak.out ar.out).mono (Nat.le_of_eq HZ.out))).setCell (p:=⟨Q,3,none⟩) (fun _=>rfl) _).setCell (p:=⟨Q,4,none⟩) (fun _=>rfl) _) ?_ aW.out.2 ?_ (fun g hg=>?_) (by rw[aB,HN.out])
    ·have bn:=(ar.out.block Q a4).trans aZ.out;rw[aW.out.1];exact row_set (j:=4) (row_set (j:=3) bn (.slice a5 n c5)) (.bool true)
    ·rw[aB];exact own_zero (own_same ah.out (fun g hg=>(set_other _ Q 4 g _ (aX g hg)).trans (set_other _ Q 3 g _ (aX g hg))))
    ·obtain⟨h1,h2⟩:=ah.out.lt g hg;simp only[set_size];exact⟨by omega,h2⟩
 ·have b3:(0:Int)<(kn:Int):=by omega
  have bs:decide ((0:Int)<(kn:Int))=true:=by simpa using b3
  obtain⟨kp,bE⟩:∃ k,kn=k+1:=⟨kn-1,by omega⟩;have bN:(kn:Int)-1=(kp:Int):=by omega
  have bB:kp<nl:=by omega
  have bP:(kp:Int)<(nl:Int):=by omega
  obtain⟨L',aA⟩:∃ l,D.later[kp]?=some l:=⟨_,List.getElem?_eq_getElem (by rw[bj.out];exact bB)⟩;obtain⟨b,hb⟩:∃ b,x.ls[kp]?=some b:=⟨_,List.getElem?_eq_getElem (by rw[HX.out.llen,bj.out];exact bB)⟩;have aT:=HX.out.each kp b L' hb aA;obtain⟨aN,a9⟩:∃ a,b.1=a:=⟨_,rfl⟩;obtain⟨cN,aU⟩:∃ a,b.2=a:=⟨_,rfl⟩;obtain⟨LN,a7⟩:∃ a,L'.length=a:=⟨_,rfl⟩
  have aW:Hid (L.length=LN/\LayR W T aN L):=hid (by
   have h1:keptD D keep=L':=by
    unfold keptD;rw[hK.out,if_neg hk0,bE,Nat.add_sub_cancel,List.getD_eq_getElem?_getD,aA];rfl
   rw[bk.out]at h1;subst h1
   exact⟨a7,by rw[<- a9];exact aT⟩)
  have aC:=HX.out.later;rw[bF.out,bj.out]at aC;obtain⟨ao,c',hv,a3⟩:=owns_view aC;obtain⟨gl,bC,b0,-,aY⟩:=a3 (by omega);injection hv with hv1 _ hv3;rw[bC]at hv1;subst hv1
  have a1:W.cell? ⟨gl,kp,none⟩=some (.slice aN LN cN):=(aY kp (by omega)).trans (by
   unfold lsC;rw[List.getElem?_zipWith,aA,hb]
   simp[slV,a9,aU,a7])
  have bV:gl≠Q:=fun e=>HX.out.np (e ▸ HX.out.lin gl (by rw[bF.out];rfl));have s0:=(B2.out.cell (p:=⟨gl,kp,none⟩) b0).trans a1;have aF:=aI.out;have aa:=row_set (j:=2) (row_set (j:=1) (row_set (j:=0) (row_set (j:=0) aF (.slice x.as_ D.safe.length x.cs)) (.slice aN LN cN)) (.slice aN LN cN)) (.slice none 0 0);have ag:Out (fun k=>k=Q) W ((((w2.setCell ⟨Q,0,none⟩ (.slice x.as_ D.safe.length x.cs)).setCell ⟨Q,0,none⟩ (.slice aN LN cN)).setCell ⟨Q,1,none⟩ (.slice aN LN cN)).setCell ⟨Q,2,none⟩ (.slice none 0 0)):=(((((Out.refl (fun k=>k=Q) W).thenBelow B2.out).setCell (p:=⟨Q,0,none⟩) (fun _=>rfl) _).setCell (p:=⟨Q,0,none⟩) (fun _=>rfl) _).setCell (p:=⟨Q,1,none⟩) (fun _=>rfl) _).setCell (p:=⟨Q,2,none⟩) (fun _=>rfl) _;have bd:=(set_other _ Q 2 W.heap.size (.slice none 0 0) aE).trans ((set_other _ Q 1 W.heap.size (.slice aN LN cN) aE).trans ((set_other _ Q 0 W.heap.size (.slice aN LN cN) aE).trans ((set_other _ Q 0 W.heap.size (.slice x.as_ D.safe.length x.cs) aE).trans b5.out)));clear aF a9 aU a7 hk0 aI aC a3 hv3 bC aY a1 aT aA hb bE;obtain⟨a5,c5,w5,ad,ac,aJ⟩:=aM ((((w2.setCell ⟨Q,0,none⟩ (.slice x.as_ D.safe.length x.cs)).setCell ⟨Q,0,none⟩ (.slice aN LN cN)).setCell ⟨Q,1,none⟩ (.slice aN LN cN)).setCell ⟨Q,2,none⟩ (.slice none 0 0)) w2.heap.size aN cN LN (by simp only[set_size]) aa ag;have ap:=hid aa;have au:=hid ag;have aK:=hid bd;have bu:=hid ac;have ak:=hid aJ;clear aa ag bd ac aJ
  repeat (first
   | (at_builtin;refine wpList_app_eq rfl (.tmp 46) (.tmp 50) 55 55 rfl (.slice (some ⟨w2.heap.size,0,none⟩) 0 0) (.slice ai n ci) rfl rfl ad ?_)
   | go_skip|go_guarded|go_step|go_upon)
  clear ad;have HZ:Hid (((((w2.setCell ⟨Q,0,none⟩ (.slice x.as_ D.safe.length x.cs)).setCell ⟨Q,0,none⟩ (.slice aN LN cN)).setCell ⟨Q,1,none⟩ (.slice aN LN cN)).setCell ⟨Q,2,none⟩ (.slice none 0 0)).heap.size=w2.heap.size):=hid (by simp only[set_size]);generalize ((((w2.setCell ⟨Q,0,none⟩ (.slice x.as_ D.safe.length x.cs)).setCell ⟨Q,0,none⟩ (.slice aN LN cN)).setCell ⟨Q,1,none⟩ (.slice aN LN cN)).setCell ⟨Q,2,none⟩ (.slice none 0 0))=wz at HZ ap au aK ak;have aV:=(ak.out.block Q a4).trans ap.out;have bc:=(ak.out.block W.heap.size am).trans aK.out;obtain⟨-,-,-,t3,-⟩:=row4 bc;have bz:=hid t3;have aZ:=hid aV;clear aV bc t3 c0 c1 c2 c3 cf
  go_loopw [6] (fun s6 wi=>∃ a:Nat,s6=.int .i64 a/\a<=n/\wi.ownsRow w2.heap.size 128 5 (.slice a5 n c5) n (risC (cleanL torn D.inos a))/\Below w2.heap.size w5 wi) (fun s6 _=>n-(RowKit.intOf s6).toNat)
  case atStart=>exact⟨0,rfl,Nat.zero_le _,by rw[cleanL_zero];exact bu.out,Below.refl _ _⟩
  case round =>
   obtain⟨a,rfl,ha,ay,aq⟩:=hrel;have ah:=hid ay;have ar:=hid aq;have bp:=aq.size;by_cases hla:a<n
   ·have aD:(a:Int)<(n:Int):=by omega
    obtain⟨i,hi⟩:∃ i,D.inos[a]?=some i:=⟨_,List.getElem?_eq_getElem (by rw[HN.out];exact hla)⟩;have HI:=hid hi;have ax:=cleanL_at (torn:=torn) hi;obtain⟨ao,c',hv,a3⟩:=owns_view ay;obtain⟨g,hg,bI,aQ,-⟩:=a3 (by omega);injection hv with hv1 _ hv3;rw[hg]at hv1;subst hv1;clear a3 hv3 hg;obtain⟨s3,be⟩:=own_cell ah.out (show(risC (cleanL torn D.inos a))[a*5+3]?=some (txt i.data) from ris_at _ a i 3 ax (by omega));obtain⟨s4,bf⟩:=own_cell ah.out (show(risC (cleanL torn D.inos a))[a*5+4]?=some (.bool i.dirty) from ris_at _ a i 4 ax (by omega));obtain⟨V,hV,bg⟩:=txt_of i.data;rw[hV]at s3;have aH:=hid bg;have HV:=hid hV;have aw:=hid ax;have t3:=(aq.cell (p:=⟨W.heap.size,3,none⟩) am).trans bz.out;clear ay aq hi ax hV bg hla;by_cases hd:i.dirty=true
    ·rw[hd]at s4;have HD:=hid hd;clear hd;obtain⟨tk,aP⟩:∃ k,torn.toNat=k:=⟨_,rfl⟩;have a6:max torn 0=(tk:Int):=by omega
     obtain⟨q,hq⟩:∃ q,min tk V.size=q:=⟨_,rfl⟩;have a8:min (tk:Int) (V.size:Int)=(q:Int):=by omega
     have bL:q<=V.size:=by omega
     have b6:(q:Int)<=(V.size:Int):=by omega
     have bQ:(0:Int)<=(q:Int):=by omega
     have bw:=hid aP;have bm:=hid hq;clear aP hq;repeat (first|go_skip|go_guarded|go_step|go_upon)
     refine wp_region_noPanic ?_;with_reducible refine QT.region_pick (S:=fun w'=>w'.cell? ⟨g,a*5+3,none⟩=some (.string V)/\w'.cell? ⟨W.heap.size,3,none⟩=some (.int .i64 torn)) [0,1,2,3,4,5,6,7,8,9,10,11,12,13,14,15,16,17] [] 18 (by kernel_rfl) (by kernel_rfl) ?_ ?_ ?_
     ·exact fun _ _ _ _ _ h=>h
     ·exact⟨s3,t3⟩
     intro _;simp only[QT.pick,List.filterMap_cons,List.filterMap_nil,List.getElem?_cons_succ,List.getElem?_cons_zero,List.drop_succ_cons,drop_zero];iterate 9 (refine QT.wpTake_cons _ (by rfl) (by intro w' ab;obtain⟨y0,y1⟩:=ab;go_simp;first|done|rfl) ?_;try simp only[Act.put,setIfInBounds_toArray,set_cons_zero,set_cons_succ])
     refine QT.wpTake_cons _ (by rfl) (fun w' ab=>step_max rfl (.tmp 71) (.const (.int .i64 0)) 3 3 rfl rfl rfl) ?_;try simp only[Act.put,setIfInBounds_toArray,set_cons_zero,set_cons_succ,a6]
     iterate 6 (refine QT.wpTake_cons _ (by rfl) (by intro w' ab;obtain⟨y0,y1⟩:=ab;go_simp;first|done|rfl) ?_;try simp only[Act.put,setIfInBounds_toArray,set_cons_zero,set_cons_succ])
     refine QT.wpTake_cons _ (by rfl) (fun w' ab=>step_min rfl (.tmp 72) (.tmp 78) 3 3 rfl rfl rfl) ?_;try simp only[Act.put,setIfInBounds_toArray,set_cons_zero,set_cons_succ,a8]
     refine QT.wpTake_cons _ (by rfl) (by intro w' ab;obtain⟨y0,y1⟩:=ab;go_simp;first|done|rfl) ?_;try simp only[Act.put,setIfInBounds_toArray,set_cons_zero,set_cons_succ]
     refine QT.wpTake_nil ?_;refine QT.wpDo_nil ?_;have az:=hid (owns_below ah.out ((Below.refl _ _).drew (B:=wr.heap.size)));have aO:Hid (Below w2.heap.size w5 wr.drew):=hid ar.out.drew;clear s3 s4 be bf t3;generalize wr.drew=wq at az aO ⊢;obtain⟨s3,be⟩:=own_cell az.out (show(risC (cleanL torn D.inos a))[a*5+3]?=some (txt i.data) from ris_at _ a i 3 aw.out (by omega));obtain⟨s4,bf⟩:=own_cell az.out (show(risC (cleanL torn D.inos a))[a*5+4]?=some (.bool i.dirty) from ris_at _ a i 4 aw.out (by omega));rw[HV.out]at s3
     have av:Hid (((wq.setCell ⟨g,a*5+3,none⟩ (.string (V.extract 0 q))).setCell ⟨g,a*5+4,none⟩ (.bool false)).ownsRow w2.heap.size 128 5 (.slice (some ⟨g,0,none⟩) n c5) n (risC (cleanL torn D.inos (a+1)))):=hid (by
      have hr:=own_set (own_set az.out (by omega) (a*5+3) (.string (V.extract 0 q))) (by omega) (a*5+4) (.bool false);have a2:V.size=i.data.length:=by rw[<- aH.out];simp
      have aS:txt (i.data.take torn.toNat)=.string (V.extract 0 q):=by
       obtain⟨V2,h1,h2⟩:=txt_of (i.data.take torn.toNat);rw[h1];congr 1;apply ByteArray.ext;apply Array.ext';rw[h2,Lib.extract_from_zero,aH.out,bw.out,← bm.out,a2];rw[List.take_eq_take_min]
      rw[<- aS,ris_clean aw.out,aS]at hr;rw[cleanL_succ HI.out,show clean torn i={ i with data:=i.data.take torn.toNat,dirty:=false } from by unfold clean;rw[if_pos HD.out]]
      exact hr)
     have b4:Hid (Below w2.heap.size w5 ((wq.setCell ⟨g,a*5+3,none⟩ (.string (V.extract 0 q))).setCell ⟨g,a*5+4,none⟩ (.bool false))):=hid ((aO.out.setCell (p:=⟨g,a*5+3,none⟩) aQ _).setCell (p:=⟨g,a*5+4,none⟩) aQ _);repeat (first|go_skip|go_guarded|go_step|go_upon)
     refine NoPanic.normal ?_;repeat (first|go_skip|go_guarded|go_step|go_upon)
     exact⟨⟨a+1,by go_num,by omega,av.out,b4.out⟩,by simp[RowKit.intOf];omega⟩
    ·have aL:i.dirty=false:=by simpa using hd
     rw[aL]at s4
     have HS:Hid (cleanL torn D.inos (a+1)=cleanL torn D.inos a):=hid (by
      rw[cleanL_succ HI.out,show clean torn i=i from by unfold clean;rw[if_neg hd]];obtain⟨hk,e⟩:=List.getElem?_eq_some_iff.1 aw.out
      exact(congrArg _ e.symm).trans (List.set_getElem_self hk))
     clear hd aL;repeat (first|go_skip|go_guarded|go_step|go_upon)
     exact⟨⟨a+1,by go_num,by omega,by rw[HS.out];exact ah.out,ar.out⟩,by simp[RowKit.intOf];omega⟩
   ·have aD:¬(a:Int)<(n:Int):=by omega
    obtain⟨-,-,-,p3,p4,-,-,-,-,-,pf⟩:=row10 ((ar.out.block Q a4).trans aZ.out);have bH:Q<wr.heap.size:=Nat.lt_of_lt_of_le a4 (Nat.le_trans (Nat.le_trans (Nat.le_of_eq HZ.out.symm) ak.out.size) bp);have bx:a=n:=by omega
    clear ay aq hla;repeat (first|go_skip|go_guarded|go_step|go_upon)
    go_end0
    refine⟨rfl,?_⟩;have aB:(cleanL torn D.inos a).length=n:=by rw[cleanL_len,HN.out]
    have b7:crashD D keep torn={ D with names:=L,safe:=L,later:=[],inos:=cleanL torn D.inos a,off:=true }:=by
     unfold crashD;rw[bk.out,bx,← HN.out,cleanL_all]
    have aX:∀ g,(Value.slice a5 n c5).ownBlock=some g->g≠Q:=fun g hg e=>by
     have:=(ah.out.lt g hg).1;omega
    rw[b7];refine HX.out.crashed (aN:=aN) (cN:=cN) (v:=.slice a5 n c5) (((au.out.thenBelow ((Below.trans ak.out ar.out).mono (Nat.le_of_eq HZ.out))).setCell (p:=⟨Q,3,none⟩) (fun _=>rfl) _).setCell (p:=⟨Q,4,none⟩) (fun _=>rfl) _) ?_ aW.out.2 ?_ (fun g hg=>?_) (by rw[aB,HN.out])
    ·have bn:=(ar.out.block Q a4).trans aZ.out;rw[aW.out.1];exact row_set (j:=4) (row_set (j:=3) bn (.slice a5 n c5)) (.bool true)
    ·rw[aB];exact own_zero (own_same ah.out (fun g hg=>(set_other _ Q 4 g _ (aX g hg)).trans (set_other _ Q 3 g _ (aX g hg))))
    ·obtain⟨h1,h2⟩:=ah.out.lt g hg;simp only[set_size];exact⟨by omega,h2⟩
end RK
end Go.Proofs.YtkmcjededpamnaaGreatDoor