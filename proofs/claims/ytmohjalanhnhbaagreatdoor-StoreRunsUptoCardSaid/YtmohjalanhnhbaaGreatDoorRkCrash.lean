import Derived.Test.YtmohjalanhnhbaaGreatDoorRkWith
import Derived.BigRegion
import Derived.Lib.MinMax
set_option linter.all false
set_option maxRecDepth 100000
set_option maxHeartbeats 25600000
namespace Go.Proofs.YtmohjalanhnhbaaGreatDoor
open Go.RowKit Go.Lib Go.BigFrame
namespace RK
open OM TP TM DP DM FP DG TG TR
theorem step_max {P:Program} {w:World} {o:Oper} {a:Act} (hgd:o.guard=none) (s x:Operand) (t t2:TypeId) (ho:o.op=.call { callee:=.builtin .max,args:=#[s,x],argTypes:=#[t,t2] }) {k k2:IntKind} {u v:Int} (hs:a.eval s=.int k u) (hx:a.eval x=.int k2 v) :
  (execOp a.eval o).run P w=.ok (.value (.int k (max u v))) w:=by
 unfold execOp
 simp only [ho,resolve,invoke,builtin,Sem.run_bind,Sem.run_pure,Result.andThen_ok,List.map_toArray,List.map_cons,List.map_nil,hs,hx,Lib.run_max_ints]
theorem step_min {P:Program} {w:World} {o:Oper} {a:Act} (hgd:o.guard=none) (s x:Operand) (t t2:TypeId) (ho:o.op=.call { callee:=.builtin .min,args:=#[s,x],argTypes:=#[t,t2] }) {k k2:IntKind} {u v:Int} (hs:a.eval s=.int k u) (hx:a.eval x=.int k2 v) :
  (execOp a.eval o).run P w=.ok (.value (.int k (min u v))) w:=by
 unfold execOp
 simp only [ho,resolve,invoke,builtin,Sem.run_bind,Sem.run_pure,Result.andThen_ok,List.map_toArray,List.map_cons,List.map_nil,hs,hx,Lib.run_min_ints]
theorem wpList_app_eq {P:Program} {w:World} {ops:Array Oper} {rest:List Oper} {o:Oper} {a:Act} {Q:Exit->Act->World->Prop} (hgd:o.guard=none) (s x:Operand) (t t2:TypeId)
  (ho:o.op=.call { callee:=.builtin .append,args:=#[s,x],argTypes:=#[t,t2] }) (u v:Value) (hs:a.eval s=u) (hx:a.eval x=v) {v':Value} {w':World}
  (hr:(Builtin.append_ #[t,t2] o.type #[u,v]).run P w=.ok v' w') (h:wpList P ops Q rest (a.put o.dst v') w'):wpList P ops Q (o::rest) a w:=by
 refine wpList_plain hgd fun K hK=>?_
 unfold Oper.wp
 simp [execOp,ho,resolve,invoke,builtin,hs,hx,hr,Result.andThen]
 exact hK _ _ h
theorem run_copyI (W:World) (base:Nat) (ai:Option Addr) (ci n:Nat) (I:List Ino) (v:Value) (hi:W.ownsRow 0 128 5 (.slice ai n ci) n (risC I)) (hown:W.ownsRow base 128 5 v 0 []) (hb:base<=W.heap.size) (hn:n*48<=140737488355328) :
  ∃ v' w',(Builtin.append_ #[55,55] 55 #[v,.slice ai n ci]).run Tryz.prog W=.ok v' w'/\w'.ownsRow base 128 5 v' n (risC I)/\W.grownBy w' v.ownBlock:=by
 obtain⟨i0,hi0,hz0,hz1,hz2⟩:=info_parts infoRI
 obtain⟨ao,c,hv,hx⟩:=owns_view hi
 injection hv with hv1 _ hv3
 subst hv1
 have hlen:=hi.1
 by_cases h0:0<n
 ·obtain⟨g,e,hlt,-,hc⟩:=hx h0
  subst e
  obtain⟨v',w',h1,h2,h3,-⟩:=run_append_own (P:=Tryz.prog) W base 55 55 128 i0 _ 5 48 Tryz.underlying55 hi0 hz0 hz1 hz2 rfl (by decide) v 0 [] hown ⟨g,0,none⟩ n ci (risC I) hlen (fun j u hu=>by
   have hj:=(List.getElem?_eq_some_iff.1 hu).1
   have e1:(⟨g,0,none⟩:Addr).add j=⟨g,j,none⟩:=by simp [Addr.add];omega
   rw [e1]
   exact (hc j (by omega)).trans hu) (ris_one I) (by unfold maxLen;omega) (by omega) hb
  rw [Nat.zero_add,List.nil_append] at h2
  exact⟨v',w',h1,h2,h3⟩
 ·obtain rfl:n=0:=by omega
  have hI:risC I=[]:=List.length_eq_zero_iff.1 (by rw [hlen])
  rw [hI]
  cases ai with
  | some a0 =>
   obtain⟨v',w',h1,h2,h3,-⟩:=run_append_own (P:=Tryz.prog) W base 55 55 128 i0 _ 5 48 Tryz.underlying55 hi0 hz0 hz1 hz2 rfl (by decide) v 0 [] hown a0 0 ci [] rfl (fun j u hu=>by simp at hu) (fun u hu=>by simp at hu) (by unfold maxLen;omega) (by omega) hb
   exact⟨v',w',h1,h2,h3⟩
  | none =>
   refine⟨v,W,?_,hown,⟨rfl,rfl,rfl,Nat.le_refl _,fun _ _ _=>rfl⟩⟩
   rcases hown.2 with ⟨rfl,h4⟩|⟨g,cap',cur,rfl,_,_,hnc,_⟩
   ·simp [Builtin.append_,run_underlying Tryz.underlying55,sizeOf,typeInfo,hi0,Builtin.lenOf,Builtin.firstCells]
   ·simp [Builtin.append_,run_underlying Tryz.underlying55,sizeOf,typeInfo,hi0,Builtin.lenOf,Builtin.firstCells,hnc,storeCells]
theorem ris_clean {L:List Ino} {a:Nat} {i:Ino} (hi:L[a]?=some i) (d:List UInt8) (b:Bool):((risC L).set (a*5+3) (txt d)).set (a*5+4) (.bool b)=risC (L.set a { i with data:=d,dirty:=b }):=by
 have ha:=(List.getElem?_eq_some_iff.1 hi).1
 have hl:=ris_len L
 apply List.ext_getElem?
 intro j
 rw [ris_set L a _ ha j]
 by_cases h4:j=a*5+4
 ·subst h4
  rw [List.getElem?_set_self (by rw [List.length_set];omega),if_pos (by omega),show a*5+4-a*5=4 by omega]
  rfl
 ·rw [List.getElem?_set_ne (by omega)]
  by_cases h3:j=a*5+3
  ·subst h3
   rw [List.getElem?_set_self (by omega),if_pos (by omega),show a*5+3-a*5=3 by omega]
   rfl
  ·rw [List.getElem?_set_ne (by omega)]
   split
   ·obtain⟨r,e,hr⟩:∃ r,j=a*5+r/\r<3:=⟨j-a*5,by omega,by omega⟩
    subst e
    rw [ris_at L a i r hi (by omega),show a*5+r-a*5=r by omega]
    rcases (by omega:r=0∨r=1∨r=2) with rfl|rfl|rfl<;>rfl
   ·rfl
def cleanL (torn:Int) (I:List Ino) (k:Nat):List Ino:=(I.take k).map (clean torn)++I.drop k
theorem cleanL_zero (torn:Int) (I:List Ino):cleanL torn I 0=I:=by unfold cleanL;simp
theorem cleanL_all (torn:Int) (I:List Ino):cleanL torn I I.length=I.map (clean torn):=by unfold cleanL;simp
theorem cleanL_len (torn:Int) (I:List Ino) (k:Nat):(cleanL torn I k).length=I.length:=by unfold cleanL;rw [List.length_append,List.length_map,List.length_take,List.length_drop];omega
theorem cleanL_at {torn:Int} {I:List Ino} {k:Nat} {i:Ino} (h:I[k]?=some i):(cleanL torn I k)[k]?=some i:=by
 have hk:=(List.getElem?_eq_some_iff.1 h).1
 unfold cleanL
 rw [List.getElem?_append_right (by rw [List.length_map,List.length_take];omega),List.length_map,List.length_take,List.getElem?_drop,← h]
 congr 1
 omega
theorem cleanL_succ {torn:Int} {I:List Ino} {k:Nat} {i:Ino} (h:I[k]?=some i):cleanL torn I (k+1)=(cleanL torn I k).set k (clean torn i):=by
 have hk:=(List.getElem?_eq_some_iff.1 h).1
 have hl:((I.take k).map (clean torn)).length=k:=by rw [List.length_map,List.length_take];omega
 unfold cleanL
 rw [List.set_append_right _ _ (by omega),hl,Nat.sub_self,List.drop_eq_getElem_cons hk,List.set_cons_zero,List.take_add_one,h,List.map_append,List.append_assoc]
 rfl
theorem RX.crashed {w W W':World} {T:Nat->Prop} {Q m:Nat} {D:Dk} {x:RP} {L:List Nd} {aN:Option Addr} {cN:Nat} {I:List Ino} {v:Value} (h:RX w T W Q m D x) (ho:Out (fun k=>k=Q) W W')
  (hrow:W'.heap[Q]?=some (.cells #[.slice aN L.length cN,.slice aN L.length cN,.slice none 0 0,v,.bool true,.int .i64 (D.trace.length:Nat),.int .i64 (D.clock:Nat),x.vt,.slice x.af D.fates.length x.cf,.slice x.ae D.edits.length x.ce] 57 (0,0)))
  (hL:LayR W T aN L) (hi:W'.ownsRow 0 128 5 v I.length (risC I)) (hgi:∀ g,v.ownBlock=some g->W.heap.size<=g/\g<W'.heap.size) (hIl:I.length=D.inos.length):RAft w W T Q m { D with names:=L,safe:=L,later:=[],inos:=I,off:=true } W':=by
 have hk:∀ k,T k->W'.heap[k]?=W.heap[k]?:=fun k hk=>ho.block k (h.lt k hk) (fun e=>h.np (e ▸ hk))
 have hQ:=(Array.getElem?_eq_some_iff.1 h.row).1
 have hL':LayR W' (fun k=>T k∨v.ownBlock=some k) aN L:=(hL.same ho.size (fun g hg _=>hk g hg)).sup (fun _=>.inl)
 have hn:=h.num
 refine⟨fun k=>T k∨v.ownBlock=some k,⟨{ x with an:=aN,cn:=cN,as_:=aN,cs:=cN,vl:=.slice none 0 0,ls:=[],vi:=v },⟨hrow,hL',hL',⟨rfl,.inl ⟨rfl,rfl⟩⟩,rfl,(fun g hg=>by cases hg),(fun j a l h1 h2=>by cases h1),hi,(fun g hg=>.inr hg),own_same h.trace (fun g hg=>hk g (h.tin g hg)),(fun g hg=>.inl (h.tin g hg)),h.fates,h.edits,h.epath,fun k hk2=>?_,h.ql,fun k hk2=>?_,?_,?_,⟨hn.clock,hn.trace,Nat.zero_le _,by show I.length<=_;rw [hIl];exact hn.inos,hn.edits,hn.path,hn.long⟩⟩⟩,fun k hk2=>?_,ho.mono (fun _ _ h=>.inr h)⟩
 ·rcases hk2 with h1|h1
  ·exact h.lo k h1
  ·exact Nat.le_trans h.bel.size (hgi k h1).1
 ·rcases hk2 with h1|h1
  ·exact Nat.lt_of_lt_of_le (h.lt k h1) ho.size
  ·exact (hgi k h1).2
 ·rintro (h1|h1)
  ·exact h.np h1
  ·have:=(hgi Q h1).1;omega
 ·exact ((Out.of_below h.bel).then ho (fun j _ hj=>by rw [show j=Q from hj];exact h.ql)).below (fun k hk _ h2=>by omega) (Nat.le_refl _)
 ·rcases hk2 with h1|h1
  ·exact .inl h1
  ·exact .inr (hgi k h1).1
theorem own_zero {w:World} {B t size n:Nat} {v:Value} {xs:List Value} (h:w.ownsRow B t size v n xs):w.ownsRow 0 t size v n xs:=by
 refine⟨h.1,?_⟩
 rcases h.2 with h1|⟨g,c,cur,h1,_,h3⟩
 ·exact .inl h1
 ·exact .inr ⟨g,c,cur,h1,Nat.zero_le _,h3⟩
theorem kcrash_any (w W:World) (T:Nat->Prop) (Q m:Nat) (D:Dk) (f:Fate) (h:RS w W T Q m D) (hf:Fit D) (hm:m<=1000) :
  Calls Tryz.prog 177 #[.pointer (some ⟨Q,0,none⟩),.agg #[.int .i64 f.at_,.int .i64 f.what,.int .i64 f.keep,.int .i64 f.torn]] W fun r W'=>r=.returned (.tuple #[])/\RAft w W T Q m (crashD D f.keep f.torn) W':=by
 obtain⟨i0,hi0,hz0,hz1,hz2⟩:=info_parts infoRI
 obtain⟨x,hx⟩:=h
 have HX:=Lib.hid hx
 have HF:=Lib.hid hf
 have hr:=hx.row
 have hlt:=(Array.getElem?_eq_some_iff.1 hr).1
 have hbn:=num_inos hx.num hm
 have hln:=hx.num.later
 obtain⟨at_,what,keep,torn⟩:=f
 simp only
 obtain⟨vl,hvl⟩:∃ v,x.vl=v:=⟨_,rfl⟩
 have hlv:=hx.later
 rw [hvl] at hlv
 obtain⟨al,cl,hvl2,-⟩:=owns_view hlv
 subst hvl2
 have hiv:=hx.inos
 obtain⟨n,hn⟩:∃ n,D.inos.length=n:=⟨_,rfl⟩
 rw [hn] at hiv hbn
 obtain⟨vi,hvi⟩:∃ v,x.vi=v:=⟨_,rfl⟩
 rw [hvi] at hiv
 obtain⟨ai,ci,hvi2,-⟩:=owns_view hiv
 subst hvi2
 have HOi:=Lib.hid hiv
 have HN:=Lib.hid hn
 have HVi:=Lib.hid hvi
 unfold rdC at hr
 rw [hvi] at hr
 rw [hvl] at hr
 have HR:=Lib.hid hr
 obtain⟨nl,hnl⟩:∃ n,D.later.length=n:=⟨_,rfl⟩
 rw [hnl] at hr hln
 obtain⟨-,c1,c2,-,-,-,-,-,-,-,cf⟩:=row10 hr
 have HVl:=Lib.hid hvl
 have HNl:=Lib.hid hnl
 have hK:Hid (keepN D keep=min keep.toNat nl):=Lib.hid (by unfold keepN;rw [hnl])
 obtain⟨kn,hkn⟩:∃ k,min keep.toNat nl=k:=⟨_,rfl⟩
 rw [hkn] at hK
 obtain⟨kk,hkk⟩:∃ k,keep.toNat=k:=⟨_,rfl⟩
 have hmx:max keep 0=(kk:Int):=by omega
 have hmn:min (kk:Int) (nl:Int)=(kn:Int):=by omega
 clear hkk hkn
 have b1:Below W.heap.size W (W.alloc (.cells #[.int .i64 at_,.int .i64 what,.int .i64 keep,.int .i64 torn] 116)):=(Below.refl _ _).alloc (Nat.le_refl _) _
 have RB:=heap_alloc_new W (.cells #[.int .i64 at_,.int .i64 what,.int .i64 keep,.int .i64 torn] 116)
 have w2:=(b1.cell (p:=⟨Q,2,none⟩) hlt).trans c2
 obtain⟨W1,hW1⟩:∃ W1,(W.alloc (.cells #[.int .i64 at_,.int .i64 what,.int .i64 keep,.int .i64 torn] 116))=W1:=⟨_,rfl⟩
 have hW1s:W.heap.size<W1.heap.size:=by rw [<- hW1];simp
 rw [hW1] at b1 RB w2
 obtain⟨t0,t1,t2,t3,-⟩:=row4 RB
 have f2:=cell_regrown w2
 have g2:=cell_regrown t2
 have B1:=Lib.hid b1
 have RB1:=Lib.hid RB
 clear hx hf hr hvl hlv hnl RB b1 hiv hn hvi
 go_enter Tryz.func177,Tryz.ntmps177
 repeat (first|go_skip|go_guarded|go_step|go_upon)
 try rw [hW1]
 clear hW1
 clear f2 g2
 refine wp_region_noPanic ?_
 with_reducible refine QT.region_pick (S:=fun w'=>w'.cell? ⟨W.heap.size,2,none⟩=some (.int .i64 keep)/\w'.cell? ⟨Q,2,none⟩=some (.slice al nl cl)) [0,1,2,3,4,5,6,7,8] [] 9 (by kernel_rfl) (by kernel_rfl) ?_ ?_ ?_
 ·exact fun _ _ _ _ _ h=>h
 ·exact⟨t2,w2⟩
 intro _
 simp only [QT.pick,List.filterMap_cons,List.filterMap_nil,List.getElem?_cons_succ,List.getElem?_cons_zero,List.drop_succ_cons,List.drop_zero]
 iterate 2 (refine QT.wpTake_cons _ (by rfl) (by intro w' hSw;obtain⟨y0,y1⟩:=hSw;go_simp;first|done|rfl) ?_;try simp only [Act.put,List.setIfInBounds_toArray,List.set_cons_zero,List.set_cons_succ])
 refine QT.wpTake_cons _ (by rfl) (fun w' hSw=>step_max rfl (.tmp 8) (.const (.int .i64 0)) 3 3 rfl rfl rfl) ?_
 try simp only [Act.put,List.setIfInBounds_toArray,List.set_cons_zero,List.set_cons_succ,hmx]
 iterate 5 (refine QT.wpTake_cons _ (by rfl) (by intro w' hSw;obtain⟨y0,y1⟩:=hSw;go_simp;first|done|rfl) ?_;try simp only [Act.put,List.setIfInBounds_toArray,List.set_cons_zero,List.set_cons_succ])
 refine QT.wpTake_cons _ (by rfl) (fun w' hSw=>step_min rfl (.tmp 9) (.tmp 14) 3 3 rfl rfl rfl) ?_
 try simp only [Act.put,List.setIfInBounds_toArray,List.set_cons_zero,List.set_cons_succ,hmn]
 refine QT.wpTake_nil ?_
 refine QT.wpDo_nil ?_
 repeat (first|go_skip|go_guarded|go_step|go_upon)
 refine NoPanic.normal ?_
 have B2:Hid (Below W.heap.size W W1.drew):=Lib.hid B1.out.drew
 have RB2:Hid (W1.drew.heap[W.heap.size]?=some (.cells #[.int .i64 at_,.int .i64 what,.int .i64 keep,.int .i64 torn] 116 (0,0))):=Lib.hid RB1.out
 have hW2s:W.heap.size<W1.drew.heap.size:=hW1s
 clear t0 t1 t2 t3 w2 c1 c2 cf B1 RB1 hW1s
 generalize W1.drew=w2 at B2 RB2 hW2s ⊢
 have HRw:Hid (w2.heap[Q]?=some (.cells #[.slice x.an D.names.length x.cn,.slice x.as_ D.safe.length x.cs,.slice al nl cl,.slice ai n ci,.bool D.off,.int .i64 (D.trace.length:Nat),.int .i64 (D.clock:Nat),x.vt,.slice x.af D.fates.length x.cf,.slice x.ae D.edits.length x.ce] 57 (0,0))):=Lib.hid (by
  have h1:=(B2.out.block Q hlt).trans HR.out
  rw [HNl.out] at h1
  exact h1)
 obtain⟨c0,c1,c2,c3,-,-,-,-,-,-,cf⟩:=row10 HRw.out
 have hQ2:Q<w2.heap.size:=by omega
 have hMid:∀ (wr:World) (b:Nat) (aN:Option Addr) (cN LN:Nat),wr.heap.size=b->wr.heap[Q]?=some (.cells #[.slice aN LN cN,.slice aN LN cN,.slice none 0 0,.slice ai n ci,.bool D.off,.int .i64 (D.trace.length:Nat),.int .i64 (D.clock:Nat),x.vt,.slice x.af D.fates.length x.cf,.slice x.ae D.edits.length x.ce] 57 (0,0))->Out (fun k=>k=Q) W wr->∃ (a5:Option Addr) (c5:Nat) (w5:World),(Builtin.append_ #[55,55] 55 #[.slice (some ⟨b,0,none⟩) 0 0,.slice ai n ci]).run Tryz.prog (wr.alloc (.cells #[] 128))=.ok (.slice a5 n c5) w5/\w5.ownsRow b 128 5 (.slice a5 n c5) n (risC D.inos)/\Below b wr w5:=by
  intro wr b aN cN LN hb hrow ho
  subst hb
  have h1:=(ho.owns HOi.out (fun g hg e=>HX.out.np (e ▸ HX.out.iin g (by rw [HVi.out];exact hg)))).alloc (.cells #[] 128)
  have h2:=World.ownsRow_made (base:=wr.heap.size) (e:=128) (size:=5) wr #[] 0 (Nat.le_refl _) (Nat.zero_le _) rfl
  obtain⟨v',w5,hrun,hown,hg⟩:=run_copyI (wr.alloc (.cells #[] 128)) wr.heap.size ai ci n D.inos _ h1 h2 (by simp) hbn
  obtain⟨a5,c5,hv,-⟩:=owns_view hown
  subst hv
  refine⟨a5,c5,w5,hrun,hown,((Below.refl _ _).alloc (Nat.le_refl _) _).grown hg (by simp) (fun j hj=>?_)⟩
  have h4:some wr.heap.size=some j:=hj
  injection h4 with h4
  omega
 obtain⟨L,hLd⟩:∃ L,keptD D keep=L:=⟨_,rfl⟩
 have HLd:=Lib.hid hLd
 have hWQ:W.heap.size≠Q:=by omega
 clear hLd
 by_cases hk0:kn=0
 ·have hkz:¬ (0:Int)<(kn:Int):=by omega
  have hkz2:decide ((0:Int)<(kn:Int))=false:=by simpa using hkz
  obtain⟨aN,haN⟩:∃ a,x.as_=a:=⟨_,rfl⟩
  obtain⟨cN,hcN⟩:∃ a,x.cs=a:=⟨_,rfl⟩
  obtain⟨LN,hLN⟩:∃ a,D.safe.length=a:=⟨_,rfl⟩
  have HLL:Hid (L.length=LN/\LayR W T aN L):=Lib.hid (by
   have h1:keptD D keep=D.safe:=by unfold keptD;rw [hK.out,if_pos hk0]
   rw [HLd.out] at h1
   subst h1
   exact⟨hLN,by rw [<- haN];exact HX.out.safe⟩)
  have hr2:=HRw.out
  rw [haN,hcN,hLN] at hr2 c1
  have hrow:=row_set (j:=2) (row_set (j:=1) (row_set (j:=0) hr2 (.slice aN LN cN)) (.slice aN LN cN)) (.slice none 0 0)
  have hout:Out (fun k=>k=Q) W (((w2.setCell ⟨Q,0,none⟩ (.slice aN LN cN)).setCell ⟨Q,1,none⟩ (.slice aN LN cN)).setCell ⟨Q,2,none⟩ (.slice none 0 0)):=((((Out.refl (fun k=>k=Q) W).thenBelow B2.out).setCell (p:=⟨Q,0,none⟩) (fun _=>rfl) _).setCell (p:=⟨Q,1,none⟩) (fun _=>rfl) _).setCell (p:=⟨Q,2,none⟩) (fun _=>rfl) _
  have hrf:=(set_other _ Q 2 W.heap.size (.slice none 0 0) hWQ).trans ((set_other _ Q 1 W.heap.size (.slice aN LN cN) hWQ).trans ((set_other _ Q 0 W.heap.size (.slice aN LN cN) hWQ).trans RB2.out))
  clear hr2 haN hcN hLN hk0 HRw
  obtain⟨a5,c5,w5,hrun,hown5,hb5⟩:=hMid (((w2.setCell ⟨Q,0,none⟩ (.slice aN LN cN)).setCell ⟨Q,1,none⟩ (.slice aN LN cN)).setCell ⟨Q,2,none⟩ (.slice none 0 0)) w2.heap.size aN cN LN (by simp only [set_size]) hrow hout
  have HRow:=Lib.hid hrow
  have HOut:=Lib.hid hout
  have HRf:=Lib.hid hrf
  have HO5:=Lib.hid hown5
  have HB5:=Lib.hid hb5
  clear hrow hout hrf hown5 hb5
  repeat (first
   | (at_builtin;refine wpList_app_eq rfl (.tmp 46) (.tmp 50) 55 55 rfl (.slice (some ⟨w2.heap.size,0,none⟩) 0 0) (.slice ai n ci) rfl rfl hrun ?_)
   | go_skip|go_guarded|go_step|go_upon)
  clear hrun
  have HZ:Hid ((((w2.setCell ⟨Q,0,none⟩ (.slice aN LN cN)).setCell ⟨Q,1,none⟩ (.slice aN LN cN)).setCell ⟨Q,2,none⟩ (.slice none 0 0)).heap.size=w2.heap.size):=Lib.hid (by simp only [set_size])
  generalize (((w2.setCell ⟨Q,0,none⟩ (.slice aN LN cN)).setCell ⟨Q,1,none⟩ (.slice aN LN cN)).setCell ⟨Q,2,none⟩ (.slice none 0 0))=wz at HZ HRow HOut HRf HB5
  have hR5:=(HB5.out.block Q hQ2).trans HRow.out
  have hF5:=(HB5.out.block W.heap.size hW2s).trans HRf.out
  obtain⟨-,-,-,t3,-⟩:=row4 hF5
  have HT3:=Lib.hid t3
  have HR5:=Lib.hid hR5
  clear hR5 hF5 t3 c0 c1 c2 c3 cf
  go_loopw [6] (fun s6 wi=>∃ a:Nat,s6=.int .i64 a/\a<=n/\wi.ownsRow w2.heap.size 128 5 (.slice a5 n c5) n (risC (cleanL torn D.inos a))/\Below w2.heap.size w5 wi) (fun s6 _=>n-(Go.RowKit.intOf s6).toNat)
  case atStart=>exact⟨0,rfl,Nat.zero_le _,by rw [cleanL_zero];exact HO5.out,Below.refl _ _⟩
  case round =>
   obtain⟨a,rfl,ha,hoi,hbi⟩:=hrel
   have HOa:=Lib.hid hoi
   have HBa:=Lib.hid hbi
   have hbs:=hbi.size
   by_cases hla:a<n
   ·have hkz3:(a:Int)<(n:Int):=by omega
    obtain⟨i,hi⟩:∃ i,D.inos[a]?=some i:=⟨_,List.getElem?_eq_getElem (by rw [HN.out];exact hla)⟩
    have HI:=Lib.hid hi
    have hia:=cleanL_at (torn:=torn) hi
    obtain⟨ao,c',hv,hx5⟩:=owns_view hoi
    obtain⟨g,hg,hg1,hg2,-⟩:=hx5 (by omega)
    injection hv with hv1 _ hv3
    rw [hg] at hv1
    subst hv1
    clear hx5 hv3 hg
    obtain⟨s3,s3f⟩:=own_cell HOa.out (show (risC (cleanL torn D.inos a))[a*5+3]?=some (txt i.data) from ris_at _ a i 3 hia (by omega))
    obtain⟨s4,s4f⟩:=own_cell HOa.out (show (risC (cleanL torn D.inos a))[a*5+4]?=some (.bool i.dirty) from ris_at _ a i 4 hia (by omega))
    obtain⟨V,hV,hVd⟩:=txt_of i.data
    rw [hV] at s3
    have HVd:=Lib.hid hVd
    have HV:=Lib.hid hV
    have HIa:=Lib.hid hia
    have t3:=(hbi.cell (p:=⟨W.heap.size,3,none⟩) hW2s).trans HT3.out
    clear hoi hbi hi hia hV hVd hla
    by_cases hd:i.dirty=true
    ·rw [hd] at s4
     have HD:=Lib.hid hd
     clear hd
     obtain⟨tk,htk⟩:∃ k,torn.toNat=k:=⟨_,rfl⟩
     have hmx2:max torn 0=(tk:Int):=by omega
     obtain⟨q,hq⟩:∃ q,min tk V.size=q:=⟨_,rfl⟩
     have hmn2:min (tk:Int) (V.size:Int)=(q:Int):=by omega
     have hqv:q<=V.size:=by omega
     have hqv2:(q:Int)<=(V.size:Int):=by omega
     have hq0:(0:Int)<=(q:Int):=by omega
     have HTk:=Lib.hid htk
     have HQq:=Lib.hid hq
     clear htk hq
     repeat (first|go_skip|go_guarded|go_step|go_upon)
     refine wp_region_noPanic ?_
     with_reducible refine QT.region_pick (S:=fun w'=>w'.cell? ⟨g,a*5+3,none⟩=some (.string V)/\w'.cell? ⟨W.heap.size,3,none⟩=some (.int .i64 torn)) [0,1,2,3,4,5,6,7,8,9,10,11,12,13,14,15,16,17] [] 18 (by kernel_rfl) (by kernel_rfl) ?_ ?_ ?_
     ·exact fun _ _ _ _ _ h=>h
     ·exact⟨s3,t3⟩
     intro _
     simp only [QT.pick,List.filterMap_cons,List.filterMap_nil,List.getElem?_cons_succ,List.getElem?_cons_zero,List.drop_succ_cons,List.drop_zero]
     iterate 9 (refine QT.wpTake_cons _ (by rfl) (by intro w' hSw;obtain⟨y0,y1⟩:=hSw;go_simp;first|done|rfl) ?_;try simp only [Act.put,List.setIfInBounds_toArray,List.set_cons_zero,List.set_cons_succ])
     refine QT.wpTake_cons _ (by rfl) (fun w' hSw=>step_max rfl (.tmp 71) (.const (.int .i64 0)) 3 3 rfl rfl rfl) ?_
     try simp only [Act.put,List.setIfInBounds_toArray,List.set_cons_zero,List.set_cons_succ,hmx2]
     iterate 6 (refine QT.wpTake_cons _ (by rfl) (by intro w' hSw;obtain⟨y0,y1⟩:=hSw;go_simp;first|done|rfl) ?_;try simp only [Act.put,List.setIfInBounds_toArray,List.set_cons_zero,List.set_cons_succ])
     refine QT.wpTake_cons _ (by rfl) (fun w' hSw=>step_min rfl (.tmp 72) (.tmp 78) 3 3 rfl rfl rfl) ?_
     try simp only [Act.put,List.setIfInBounds_toArray,List.set_cons_zero,List.set_cons_succ,hmn2]
     refine QT.wpTake_cons _ (by rfl) (by intro w' hSw;obtain⟨y0,y1⟩:=hSw;go_simp;first|done|rfl) ?_
     try simp only [Act.put,List.setIfInBounds_toArray,List.set_cons_zero,List.set_cons_succ]
     refine QT.wpTake_nil ?_
     refine QT.wpDo_nil ?_
     have HOq:=Lib.hid (owns_below HOa.out ((Below.refl _ _).drew (B:=wr.heap.size)))
     have HBq:Hid (Below w2.heap.size w5 wr.drew):=Lib.hid HBa.out.drew
     clear s3 s4 s3f s4f t3
     generalize wr.drew=wq at HOq HBq ⊢
     obtain⟨s3,s3f⟩:=own_cell HOq.out (show (risC (cleanL torn D.inos a))[a*5+3]?=some (txt i.data) from ris_at _ a i 3 HIa.out (by omega))
     obtain⟨s4,s4f⟩:=own_cell HOq.out (show (risC (cleanL torn D.inos a))[a*5+4]?=some (.bool i.dirty) from ris_at _ a i 4 HIa.out (by omega))
     rw [HV.out] at s3
     have HNext:Hid (((wq.setCell ⟨g,a*5+3,none⟩ (.string (V.extract 0 q))).setCell ⟨g,a*5+4,none⟩ (.bool false)).ownsRow w2.heap.size 128 5 (.slice (some ⟨g,0,none⟩) n c5) n (risC (cleanL torn D.inos (a+1)))):=Lib.hid (by
      have hr:=own_set (own_set HOq.out (by omega) (a*5+3) (.string (V.extract 0 q))) (by omega) (a*5+4) (.bool false)
      have hvl:V.size=i.data.length:=by rw [<- HVd.out];simp
      have hdt:txt (i.data.take torn.toNat)=.string (V.extract 0 q):=by
       obtain⟨V2,h1,h2⟩:=txt_of (i.data.take torn.toNat)
       rw [h1]
       congr 1
       apply ByteArray.ext
       apply Array.ext'
       rw [h2,Lib.extract_from_zero,HVd.out,HTk.out,← HQq.out,hvl]
       rw [List.take_eq_take_min]
      rw [<- hdt,ris_clean HIa.out,hdt] at hr
      rw [cleanL_succ HI.out,show clean torn i={ i with data:=i.data.take torn.toNat,dirty:=false } from by unfold clean;rw [if_pos HD.out]]
      exact hr)
     have HBn:Hid (Below w2.heap.size w5 ((wq.setCell ⟨g,a*5+3,none⟩ (.string (V.extract 0 q))).setCell ⟨g,a*5+4,none⟩ (.bool false))):=Lib.hid ((HBq.out.setCell (p:=⟨g,a*5+3,none⟩) hg2 _).setCell (p:=⟨g,a*5+4,none⟩) hg2 _)
     repeat (first|go_skip|go_guarded|go_step|go_upon)
     refine NoPanic.normal ?_
     repeat (first|go_skip|go_guarded|go_step|go_upon)
     exact⟨⟨a+1,by go_num,by omega,HNext.out,HBn.out⟩,by simp [Go.RowKit.intOf];omega⟩
    ·have hd2:i.dirty=false:=by simpa using hd
     rw [hd2] at s4
     have HS:Hid (cleanL torn D.inos (a+1)=cleanL torn D.inos a):=Lib.hid (by
      rw [cleanL_succ HI.out,show clean torn i=i from by unfold clean;rw [if_neg hd]]
      obtain⟨hk,e⟩:=List.getElem?_eq_some_iff.1 HIa.out
      exact (congrArg _ e.symm).trans (List.set_getElem_self hk))
     clear hd hd2
     repeat (first|go_skip|go_guarded|go_step|go_upon)
     exact⟨⟨a+1,by go_num,by omega,by rw [HS.out];exact HOa.out,HBa.out⟩,by simp [Go.RowKit.intOf];omega⟩
   ·have hkz3:¬ (a:Int)<(n:Int):=by omega
    obtain⟨-,-,-,p3,p4,-,-,-,-,-,pf⟩:=row10 ((HBa.out.block Q hQ2).trans HR5.out)
    have hQa:Q<wr.heap.size:=Nat.lt_of_lt_of_le hQ2 (Nat.le_trans (Nat.le_trans (Nat.le_of_eq HZ.out.symm) HB5.out.size) hbs)
    have hnn:a=n:=by omega
    clear hoi hbi hla
    repeat (first|go_skip|go_guarded|go_step|go_upon)
    go_end0
    refine⟨rfl,?_⟩
    have hIl:(cleanL torn D.inos a).length=n:=by rw [cleanL_len,HN.out]
    have hcr:crashD D keep torn={ D with names:=L,safe:=L,later:=[],inos:=cleanL torn D.inos a,off:=true }:=by
     unfold crashD
     rw [HLd.out,hnn,← HN.out,cleanL_all]
    have hgQ:∀ g,(Value.slice a5 n c5).ownBlock=some g->g≠Q:=fun g hg e=>by
     have:=(HOa.out.lt g hg).1
     omega
    rw [hcr]
    refine HX.out.crashed (aN:=aN) (cN:=cN) (v:=.slice a5 n c5) (((HOut.out.thenBelow ((Below.trans HB5.out HBa.out).mono (Nat.le_of_eq HZ.out))).setCell (p:=⟨Q,3,none⟩) (fun _=>rfl) _).setCell (p:=⟨Q,4,none⟩) (fun _=>rfl) _) ?_ HLL.out.2 ?_ (fun g hg=>?_) (by rw [hIl,HN.out])
    ·have hrw:=(HBa.out.block Q hQ2).trans HR5.out
     rw [HLL.out.1]
     exact row_set (j:=4) (row_set (j:=3) hrw (.slice a5 n c5)) (.bool true)
    ·rw [hIl]
     exact own_zero (own_same HOa.out (fun g hg=>(set_other _ Q 4 g _ (hgQ g hg)).trans (set_other _ Q 3 g _ (hgQ g hg))))
    ·obtain⟨h1,h2⟩:=HOa.out.lt g hg
     simp only [set_size]
     exact⟨by omega,h2⟩
 ·have hkz:(0:Int)<(kn:Int):=by omega
  have hkz2:decide ((0:Int)<(kn:Int))=true:=by simpa using hkz
  obtain⟨kp,hkp⟩:∃ k,kn=k+1:=⟨kn-1,by omega⟩
  have hsub:(kn:Int)-1=(kp:Int):=by omega
  have hkl:kp<nl:=by omega
  have hkl2:(kp:Int)<(nl:Int):=by omega
  obtain⟨L',hL'⟩:∃ l,D.later[kp]?=some l:=⟨_,List.getElem?_eq_getElem (by rw [HNl.out];exact hkl)⟩
  obtain⟨b,hb⟩:∃ b,x.ls[kp]?=some b:=⟨_,List.getElem?_eq_getElem (by rw [HX.out.llen,HNl.out];exact hkl)⟩
  have hlay:=HX.out.each kp b L' hb hL'
  obtain⟨aN,haN⟩:∃ a,b.1=a:=⟨_,rfl⟩
  obtain⟨cN,hcN⟩:∃ a,b.2=a:=⟨_,rfl⟩
  obtain⟨LN,hLN⟩:∃ a,L'.length=a:=⟨_,rfl⟩
  have HLL:Hid (L.length=LN/\LayR W T aN L):=Lib.hid (by
   have h1:keptD D keep=L':=by
    unfold keptD
    rw [hK.out,if_neg hk0,hkp,Nat.add_sub_cancel,List.getD_eq_getElem?_getD,hL']
    rfl
   rw [HLd.out] at h1
   subst h1
   exact⟨hLN,by rw [<- haN];exact hlay⟩)
  have hlv:=HX.out.later
  rw [HVl.out,HNl.out] at hlv
  obtain⟨ao,c',hv,hx5⟩:=owns_view hlv
  obtain⟨gl,hgl,hgl1,-,hglc⟩:=hx5 (by omega)
  injection hv with hv1 _ hv3
  rw [hgl] at hv1
  subst hv1
  have hcell:W.cell? ⟨gl,kp,none⟩=some (.slice aN LN cN):=(hglc kp (by omega)).trans (by
   unfold lsC
   rw [List.getElem?_zipWith,hL',hb]
   simp [slV,haN,hcN,hLN])
  have hne:gl≠Q:=fun e=>HX.out.np (e ▸ HX.out.lin gl (by rw [HVl.out];rfl))
  have s0:=(B2.out.cell (p:=⟨gl,kp,none⟩) hgl1).trans hcell
  have hr2:=HRw.out
  have hrow:=row_set (j:=2) (row_set (j:=1) (row_set (j:=0) (row_set (j:=0) hr2 (.slice x.as_ D.safe.length x.cs)) (.slice aN LN cN)) (.slice aN LN cN)) (.slice none 0 0)
  have hout:Out (fun k=>k=Q) W ((((w2.setCell ⟨Q,0,none⟩ (.slice x.as_ D.safe.length x.cs)).setCell ⟨Q,0,none⟩ (.slice aN LN cN)).setCell ⟨Q,1,none⟩ (.slice aN LN cN)).setCell ⟨Q,2,none⟩ (.slice none 0 0)):=(((((Out.refl (fun k=>k=Q) W).thenBelow B2.out).setCell (p:=⟨Q,0,none⟩) (fun _=>rfl) _).setCell (p:=⟨Q,0,none⟩) (fun _=>rfl) _).setCell (p:=⟨Q,1,none⟩) (fun _=>rfl) _).setCell (p:=⟨Q,2,none⟩) (fun _=>rfl) _
  have hrf:=(set_other _ Q 2 W.heap.size (.slice none 0 0) hWQ).trans ((set_other _ Q 1 W.heap.size (.slice aN LN cN) hWQ).trans ((set_other _ Q 0 W.heap.size (.slice aN LN cN) hWQ).trans ((set_other _ Q 0 W.heap.size (.slice x.as_ D.safe.length x.cs) hWQ).trans RB2.out)))
  clear hr2 haN hcN hLN hk0 HRw hlv hx5 hv3 hgl hglc hcell hlay hL' hb hkp
  obtain⟨a5,c5,w5,hrun,hown5,hb5⟩:=hMid ((((w2.setCell ⟨Q,0,none⟩ (.slice x.as_ D.safe.length x.cs)).setCell ⟨Q,0,none⟩ (.slice aN LN cN)).setCell ⟨Q,1,none⟩ (.slice aN LN cN)).setCell ⟨Q,2,none⟩ (.slice none 0 0)) w2.heap.size aN cN LN (by simp only [set_size]) hrow hout
  have HRow:=Lib.hid hrow
  have HOut:=Lib.hid hout
  have HRf:=Lib.hid hrf
  have HO5:=Lib.hid hown5
  have HB5:=Lib.hid hb5
  clear hrow hout hrf hown5 hb5
  repeat (first
   | (at_builtin;refine wpList_app_eq rfl (.tmp 46) (.tmp 50) 55 55 rfl (.slice (some ⟨w2.heap.size,0,none⟩) 0 0) (.slice ai n ci) rfl rfl hrun ?_)
   | go_skip|go_guarded|go_step|go_upon)
  clear hrun
  have HZ:Hid (((((w2.setCell ⟨Q,0,none⟩ (.slice x.as_ D.safe.length x.cs)).setCell ⟨Q,0,none⟩ (.slice aN LN cN)).setCell ⟨Q,1,none⟩ (.slice aN LN cN)).setCell ⟨Q,2,none⟩ (.slice none 0 0)).heap.size=w2.heap.size):=Lib.hid (by simp only [set_size])
  generalize ((((w2.setCell ⟨Q,0,none⟩ (.slice x.as_ D.safe.length x.cs)).setCell ⟨Q,0,none⟩ (.slice aN LN cN)).setCell ⟨Q,1,none⟩ (.slice aN LN cN)).setCell ⟨Q,2,none⟩ (.slice none 0 0))=wz at HZ HRow HOut HRf HB5
  have hR5:=(HB5.out.block Q hQ2).trans HRow.out
  have hF5:=(HB5.out.block W.heap.size hW2s).trans HRf.out
  obtain⟨-,-,-,t3,-⟩:=row4 hF5
  have HT3:=Lib.hid t3
  have HR5:=Lib.hid hR5
  clear hR5 hF5 t3 c0 c1 c2 c3 cf
  go_loopw [6] (fun s6 wi=>∃ a:Nat,s6=.int .i64 a/\a<=n/\wi.ownsRow w2.heap.size 128 5 (.slice a5 n c5) n (risC (cleanL torn D.inos a))/\Below w2.heap.size w5 wi) (fun s6 _=>n-(Go.RowKit.intOf s6).toNat)
  case atStart=>exact⟨0,rfl,Nat.zero_le _,by rw [cleanL_zero];exact HO5.out,Below.refl _ _⟩
  case round =>
   obtain⟨a,rfl,ha,hoi,hbi⟩:=hrel
   have HOa:=Lib.hid hoi
   have HBa:=Lib.hid hbi
   have hbs:=hbi.size
   by_cases hla:a<n
   ·have hkz3:(a:Int)<(n:Int):=by omega
    obtain⟨i,hi⟩:∃ i,D.inos[a]?=some i:=⟨_,List.getElem?_eq_getElem (by rw [HN.out];exact hla)⟩
    have HI:=Lib.hid hi
    have hia:=cleanL_at (torn:=torn) hi
    obtain⟨ao,c',hv,hx5⟩:=owns_view hoi
    obtain⟨g,hg,hg1,hg2,-⟩:=hx5 (by omega)
    injection hv with hv1 _ hv3
    rw [hg] at hv1
    subst hv1
    clear hx5 hv3 hg
    obtain⟨s3,s3f⟩:=own_cell HOa.out (show (risC (cleanL torn D.inos a))[a*5+3]?=some (txt i.data) from ris_at _ a i 3 hia (by omega))
    obtain⟨s4,s4f⟩:=own_cell HOa.out (show (risC (cleanL torn D.inos a))[a*5+4]?=some (.bool i.dirty) from ris_at _ a i 4 hia (by omega))
    obtain⟨V,hV,hVd⟩:=txt_of i.data
    rw [hV] at s3
    have HVd:=Lib.hid hVd
    have HV:=Lib.hid hV
    have HIa:=Lib.hid hia
    have t3:=(hbi.cell (p:=⟨W.heap.size,3,none⟩) hW2s).trans HT3.out
    clear hoi hbi hi hia hV hVd hla
    by_cases hd:i.dirty=true
    ·rw [hd] at s4
     have HD:=Lib.hid hd
     clear hd
     obtain⟨tk,htk⟩:∃ k,torn.toNat=k:=⟨_,rfl⟩
     have hmx2:max torn 0=(tk:Int):=by omega
     obtain⟨q,hq⟩:∃ q,min tk V.size=q:=⟨_,rfl⟩
     have hmn2:min (tk:Int) (V.size:Int)=(q:Int):=by omega
     have hqv:q<=V.size:=by omega
     have hqv2:(q:Int)<=(V.size:Int):=by omega
     have hq0:(0:Int)<=(q:Int):=by omega
     have HTk:=Lib.hid htk
     have HQq:=Lib.hid hq
     clear htk hq
     repeat (first|go_skip|go_guarded|go_step|go_upon)
     refine wp_region_noPanic ?_
     with_reducible refine QT.region_pick (S:=fun w'=>w'.cell? ⟨g,a*5+3,none⟩=some (.string V)/\w'.cell? ⟨W.heap.size,3,none⟩=some (.int .i64 torn)) [0,1,2,3,4,5,6,7,8,9,10,11,12,13,14,15,16,17] [] 18 (by kernel_rfl) (by kernel_rfl) ?_ ?_ ?_
     ·exact fun _ _ _ _ _ h=>h
     ·exact⟨s3,t3⟩
     intro _
     simp only [QT.pick,List.filterMap_cons,List.filterMap_nil,List.getElem?_cons_succ,List.getElem?_cons_zero,List.drop_succ_cons,List.drop_zero]
     iterate 9 (refine QT.wpTake_cons _ (by rfl) (by intro w' hSw;obtain⟨y0,y1⟩:=hSw;go_simp;first|done|rfl) ?_;try simp only [Act.put,List.setIfInBounds_toArray,List.set_cons_zero,List.set_cons_succ])
     refine QT.wpTake_cons _ (by rfl) (fun w' hSw=>step_max rfl (.tmp 71) (.const (.int .i64 0)) 3 3 rfl rfl rfl) ?_
     try simp only [Act.put,List.setIfInBounds_toArray,List.set_cons_zero,List.set_cons_succ,hmx2]
     iterate 6 (refine QT.wpTake_cons _ (by rfl) (by intro w' hSw;obtain⟨y0,y1⟩:=hSw;go_simp;first|done|rfl) ?_;try simp only [Act.put,List.setIfInBounds_toArray,List.set_cons_zero,List.set_cons_succ])
     refine QT.wpTake_cons _ (by rfl) (fun w' hSw=>step_min rfl (.tmp 72) (.tmp 78) 3 3 rfl rfl rfl) ?_
     try simp only [Act.put,List.setIfInBounds_toArray,List.set_cons_zero,List.set_cons_succ,hmn2]
     refine QT.wpTake_cons _ (by rfl) (by intro w' hSw;obtain⟨y0,y1⟩:=hSw;go_simp;first|done|rfl) ?_
     try simp only [Act.put,List.setIfInBounds_toArray,List.set_cons_zero,List.set_cons_succ]
     refine QT.wpTake_nil ?_
     refine QT.wpDo_nil ?_
     have HOq:=Lib.hid (owns_below HOa.out ((Below.refl _ _).drew (B:=wr.heap.size)))
     have HBq:Hid (Below w2.heap.size w5 wr.drew):=Lib.hid HBa.out.drew
     clear s3 s4 s3f s4f t3
     generalize wr.drew=wq at HOq HBq ⊢
     obtain⟨s3,s3f⟩:=own_cell HOq.out (show (risC (cleanL torn D.inos a))[a*5+3]?=some (txt i.data) from ris_at _ a i 3 HIa.out (by omega))
     obtain⟨s4,s4f⟩:=own_cell HOq.out (show (risC (cleanL torn D.inos a))[a*5+4]?=some (.bool i.dirty) from ris_at _ a i 4 HIa.out (by omega))
     rw [HV.out] at s3
     have HNext:Hid (((wq.setCell ⟨g,a*5+3,none⟩ (.string (V.extract 0 q))).setCell ⟨g,a*5+4,none⟩ (.bool false)).ownsRow w2.heap.size 128 5 (.slice (some ⟨g,0,none⟩) n c5) n (risC (cleanL torn D.inos (a+1)))):=Lib.hid (by
      have hr:=own_set (own_set HOq.out (by omega) (a*5+3) (.string (V.extract 0 q))) (by omega) (a*5+4) (.bool false)
      have hvl:V.size=i.data.length:=by rw [<- HVd.out];simp
      have hdt:txt (i.data.take torn.toNat)=.string (V.extract 0 q):=by
       obtain⟨V2,h1,h2⟩:=txt_of (i.data.take torn.toNat)
       rw [h1]
       congr 1
       apply ByteArray.ext
       apply Array.ext'
       rw [h2,Lib.extract_from_zero,HVd.out,HTk.out,← HQq.out,hvl]
       rw [List.take_eq_take_min]
      rw [<- hdt,ris_clean HIa.out,hdt] at hr
      rw [cleanL_succ HI.out,show clean torn i={ i with data:=i.data.take torn.toNat,dirty:=false } from by unfold clean;rw [if_pos HD.out]]
      exact hr)
     have HBn:Hid (Below w2.heap.size w5 ((wq.setCell ⟨g,a*5+3,none⟩ (.string (V.extract 0 q))).setCell ⟨g,a*5+4,none⟩ (.bool false))):=Lib.hid ((HBq.out.setCell (p:=⟨g,a*5+3,none⟩) hg2 _).setCell (p:=⟨g,a*5+4,none⟩) hg2 _)
     repeat (first|go_skip|go_guarded|go_step|go_upon)
     refine NoPanic.normal ?_
     repeat (first|go_skip|go_guarded|go_step|go_upon)
     exact⟨⟨a+1,by go_num,by omega,HNext.out,HBn.out⟩,by simp [Go.RowKit.intOf];omega⟩
    ·have hd2:i.dirty=false:=by simpa using hd
     rw [hd2] at s4
     have HS:Hid (cleanL torn D.inos (a+1)=cleanL torn D.inos a):=Lib.hid (by
      rw [cleanL_succ HI.out,show clean torn i=i from by unfold clean;rw [if_neg hd]]
      obtain⟨hk,e⟩:=List.getElem?_eq_some_iff.1 HIa.out
      exact (congrArg _ e.symm).trans (List.set_getElem_self hk))
     clear hd hd2
     repeat (first|go_skip|go_guarded|go_step|go_upon)
     exact⟨⟨a+1,by go_num,by omega,by rw [HS.out];exact HOa.out,HBa.out⟩,by simp [Go.RowKit.intOf];omega⟩
   ·have hkz3:¬ (a:Int)<(n:Int):=by omega
    obtain⟨-,-,-,p3,p4,-,-,-,-,-,pf⟩:=row10 ((HBa.out.block Q hQ2).trans HR5.out)
    have hQa:Q<wr.heap.size:=Nat.lt_of_lt_of_le hQ2 (Nat.le_trans (Nat.le_trans (Nat.le_of_eq HZ.out.symm) HB5.out.size) hbs)
    have hnn:a=n:=by omega
    clear hoi hbi hla
    repeat (first|go_skip|go_guarded|go_step|go_upon)
    go_end0
    refine⟨rfl,?_⟩
    have hIl:(cleanL torn D.inos a).length=n:=by rw [cleanL_len,HN.out]
    have hcr:crashD D keep torn={ D with names:=L,safe:=L,later:=[],inos:=cleanL torn D.inos a,off:=true }:=by
     unfold crashD
     rw [HLd.out,hnn,← HN.out,cleanL_all]
    have hgQ:∀ g,(Value.slice a5 n c5).ownBlock=some g->g≠Q:=fun g hg e=>by
     have:=(HOa.out.lt g hg).1
     omega
    rw [hcr]
    refine HX.out.crashed (aN:=aN) (cN:=cN) (v:=.slice a5 n c5) (((HOut.out.thenBelow ((Below.trans HB5.out HBa.out).mono (Nat.le_of_eq HZ.out))).setCell (p:=⟨Q,3,none⟩) (fun _=>rfl) _).setCell (p:=⟨Q,4,none⟩) (fun _=>rfl) _) ?_ HLL.out.2 ?_ (fun g hg=>?_) (by rw [hIl,HN.out])
    ·have hrw:=(HBa.out.block Q hQ2).trans HR5.out
     rw [HLL.out.1]
     exact row_set (j:=4) (row_set (j:=3) hrw (.slice a5 n c5)) (.bool true)
    ·rw [hIl]
     exact own_zero (own_same HOa.out (fun g hg=>(set_other _ Q 4 g _ (hgQ g hg)).trans (set_other _ Q 3 g _ (hgQ g hg))))
    ·obtain⟨h1,h2⟩:=HOa.out.lt g hg
     simp only [set_size]
     exact⟨by omega,h2⟩
end RK
end Go.Proofs.YtmohjalanhnhbaaGreatDoor