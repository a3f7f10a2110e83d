import Derived.Test.YtmohjalanhnhbaaGreatDoorMg13
set_option linter.all false
set_option maxRecDepth 100000
set_option maxHeartbeats 25600000
namespace Go.Proofs.YtmohjalanhnhbaaGreatDoor
open Go.RowKit Go.Lib Go.BigFrame
namespace RK
open OM TP TM DP DM FP DG TG TR
theorem own_set {w:World} {B t size n c g:Nat} {xs:List Value} (h:w.ownsRow B t size (.slice (some ⟨g,0,none⟩) n c) n xs) (h0:0<n) (j:Nat) (u:Value):(w.setCell ⟨g,j,none⟩ u).ownsRow B t size (.slice (some ⟨g,0,none⟩) n c) n (xs.set j u):=by
 refine⟨by rw [List.length_set];exact h.1,?_⟩
 rcases h.2 with ⟨_,h1⟩|⟨g',c',cur,h1,hb,h2,h3,h4,h5,h6⟩
 ·omega
 ·injection h1 with e1 _ e3
  injection e1 with e1
  injection e1 with e1 _ _
  subst e1 e3
  refine .inr ⟨g,c,cur.setIfInBounds j u,rfl,hb,row_set (j:=j) h2 u,h3,h4,by rw [Array.size_setIfInBounds];exact h5,?_⟩
  rw [Array.toList_setIfInBounds,List.take_set,h6]
theorem own_cell {w:World} {B t size n c g:Nat} {xs:List Value} (h:w.ownsRow B t size (.slice (some ⟨g,0,none⟩) n c) n xs) {j:Nat} {u:Value} (hu:xs[j]?=some u):w.cell? ⟨g,j,none⟩=some u/\w.frozen? ⟨g,j,none⟩=false:=by
 have hj:=(List.getElem?_eq_some_iff.1 hu).1
 rcases h.2 with ⟨_,h1⟩|⟨g',c',cur,h1,hb,h2,h3,h4,h5,h6⟩
 ·rw [h.1,h1] at hj
  omega
 ·injection h1 with e1 _ e3
  injection e1 with e1
  injection e1 with e1 _ _
  subst e1 e3
  refine⟨?_,frozen_of_row w g j _ _ h2⟩
  rw [cell_of_row w g j _ _ _ h2,← Array.getElem?_toList,← hu,← h6,List.getElem?_take_of_lt (by rw [<- h.1];exact hj)]
theorem res_set:∀ (L:List Nd) (a:Nat) (e:Nd),((resC L).set (a*2) (txt e.path)).set (a*2+1) (.int .i64 e.kind)=resC (L.set a e)
 | [],a,e=>by simp [resC]
 | x::L,0,e=>rfl
 | x::L,a+1,e=>by
  have ih:=res_set L a e
  show (((txt x.path)::(.int .i64 x.kind)::resC L).set ((a+1)*2) _).set ((a+1)*2+1) _=(txt x.path)::(.int .i64 x.kind)::resC (L.set a e)
  rw [<- ih,show (a+1)*2=a*2+1+1 by omega]
  rfl
def posR (S:List Nd) (x:Nd):Nat->Nat
 | 0=>0
 | k+1=>if 0<NP.ordL ((S[k]?).getD x).path x.path then posR S x k else k+1
def insR (S:List Nd) (x:Nd):List Nd:=S.take (posR S x S.length)++x::S.drop (posR S x S.length)
def sortK (l:List Nd) (k:Nat):List Nd:=(l.take k).foldl insR []
theorem posR_le (S:List Nd) (x:Nd):∀ k,posR S x k<=k
 | 0=>Nat.le_refl _
 | k+1=>by
  unfold posR
  split
  ·exact Nat.le_succ_of_le (posR_le S x k)
  ·exact Nat.le_refl _
theorem insR_len (S:List Nd) (x:Nd):(insR S x).length=S.length+1:=by
 have:=posR_le S x S.length
 unfold insR
 rw [List.length_append,List.length_cons,List.length_take,List.length_drop]
 omega
theorem sortK_succ {l:List Nd} {k:Nat} {x:Nd} (hx:l[k]?=some x):sortK l (k+1)=insR (sortK l k) x:=by
 unfold sortK
 rw [List.take_add_one,hx,Option.toList_some,List.foldl_append]
 rfl
theorem fold_len:∀ (l S:List Nd),(l.foldl insR S).length=S.length+l.length
 | [],S=>rfl
 | x::l,S=>by
  show (l.foldl insR (insR S x)).length=_
  rw [fold_len l,insR_len,List.length_cons]
  omega
theorem sortK_len {l:List Nd} {k:Nat} (hk:k<=l.length):(sortK l k).length=k:=by
 unfold sortK
 rw [fold_len,List.length_take]
 simp
 omega
theorem insR_mem {S:List Nd} {x e:Nd} (h:e∈insR S x):e∈S∨e=x:=by
 unfold insR at h
 rcases List.mem_append.1 h with h|h
 ·exact .inl (List.mem_of_mem_take h)
 ·rcases List.mem_cons.1 h with h|h
  ·exact .inr h
  ·exact .inl (List.mem_of_mem_drop h)
theorem fold_mem:∀ (l S:List Nd) (e:Nd),e∈l.foldl insR S->e∈S∨e∈l
 | [],S,e,h=>.inl h
 | x::l,S,e,h=>by
  rcases fold_mem l (insR S x) e h with h|h
  ·rcases insR_mem h with h|h
   ·exact .inl h
   ·exact .inr (by rw [h];exact List.mem_cons_self ..)
  ·exact .inr (List.mem_cons_of_mem _ h)
theorem sortK_mem {l:List Nd} {k:Nat} {e:Nd} (h:e∈sortK l k):e∈l:=by
 rcases fold_mem _ _ e h with h|h
 ·cases h
 ·exact List.mem_of_mem_take h
def midL (S:List Nd) (y:Nd) (a:Nat):List Nd:=S.take a++y::S.drop a
theorem mid_end (S:List Nd) (x:Nd):midL S x S.length=S++[x]:=by unfold midL;rw [List.take_length,List.drop_length]
theorem mid_len {S:List Nd} {y:Nd} {a:Nat} (ha:a<=S.length):(midL S y a).length=S.length+1:=by
 unfold midL
 rw [List.length_append,List.length_cons,List.length_take,List.length_drop]
 omega
theorem mid_at {S:List Nd} {y:Nd} {j:Nat} {e:Nd} (he:S[j]?=some e):(midL S y (j+1))[j]?=some e:=by
 have hj:=(List.getElem?_eq_some_iff.1 he).1
 unfold midL
 rw [List.getElem?_append_left (by rw [List.length_take];omega),List.getElem?_take_of_lt (by omega)]
 exact he
theorem mid_set {S:List Nd} {y e:Nd} {a:Nat} (ha:a<=S.length):(midL S y a).set a e=midL S e a:=by
 unfold midL
 rw [List.set_append_right _ _ (by rw [List.length_take];omega),List.length_take,Nat.min_eq_left ha,Nat.sub_self]
 rfl
theorem mid_down {S:List Nd} {e:Nd} {j:Nat} (he:S[j]?=some e):midL S e (j+1)=midL S e j:=by
 have hj:=(List.getElem?_eq_some_iff.1 he).1
 have he2:=(List.getElem?_eq_some_iff.1 he).2
 unfold midL
 rw [List.take_add_one,he,Option.toList_some,List.append_assoc,List.drop_eq_getElem_cons hj,he2]
 rfl
theorem ls_snoc {later:List (List Nd)} {ls:List (Option Addr×Nat)} (h:ls.length=later.length) (L:List Nd) (a:Option Addr×Nat):lsC (later++[L]) (ls++[a])=lsC later ls++[slV L a]:=by
 unfold lsC
 rw [List.zipWith_append h.symm]
 rfl
def chgR (D:Dk) (L:List Nd):Dk:={ D with names:=L,later:=D.later++[L] }
theorem RX.newNames {w W W':World} {T:Nat->Prop} {Q m m':Nat} {D:Dk} {x:RP} {L:List Nd} {a:Option Addr} {c:Nat} {v:Value} (h:RX w T W Q m D x) (ho:Out (fun k=>k=Q∨x.vl.ownBlock=some k) W W')
  (hrow:W'.heap[Q]?=some (.cells (rdC (chgR D L) { x with an:=a,cn:=c,vl:=v,ls:=x.ls++[(a,c)] }) 57 (0,0)))
  (hL:LayR W' (fun k=>W.heap.size<=k) a L) (hl:W'.ownsRow 0 53 1 v (D.later.length+1) (lsC D.later x.ls++[slV L (a,c)])) (hv:v.ownBlock=x.vl.ownBlock∨∃ g,v.ownBlock=some g/\W.heap.size<=g/\g<W'.heap.size) (hnum:Num m' (chgR D L)):RAft w W T Q m' (chgR D L) W':=by
 have hQ:=(Array.getElem?_eq_some_iff.1 h.row).1
 have hne:∀ k,T k->x.vl.ownBlock≠some k->W'.heap[k]?=W.heap[k]?:=fun k hk hn=>ho.block k (h.lt k hk) (fun e=>by
  rcases e with e|e
  ·exact h.np (e ▸ hk)
  ·exact hn e)
 have hlt:∀ k,x.vl.ownBlock=some k->IsT W k 53:=fun k hk=>own_type h.later k hk
 have hE:∀ g,T g->IsT W g 130->W'.heap[g]?=W.heap[g]?:=fun g hg hi=>hne g hg (fun e=>(hlt g e).ne hi (by decide) rfl)
 have hI:∀ g,x.vi.ownBlock=some g->W'.heap[g]?=W.heap[g]?:=fun g hg=>hne g (h.iin g hg) (fun e=>(hlt g e).ne (own_type h.inos g hg) (by decide) rfl)
 have hT:∀ g,x.vt.ownBlock=some g->W'.heap[g]?=W.heap[g]?:=fun g hg=>hne g (h.tin g hg) (fun e=>(hlt g e).ne (own_type h.trace g hg) (by decide) rfl)
 refine⟨fun k=>T k∨(W.heap.size<=k/\k<W'.heap.size),⟨_,⟨hrow,?_,(h.safe.same ho.size hE).sup (fun _=>.inl),?_,?_,?_,?_,own_same h.inos hI,(fun g hg=>.inl (h.iin g hg)),own_same h.trace hT,(fun g hg=>.inl (h.tin g hg)),h.fates,h.edits,h.epath,fun k hk=>?_,h.ql,fun k hk=>?_,?_,?_,hnum⟩⟩,fun k hk=>hk.imp id (·.1),ho.mono (fun k _ hk=>?_)⟩
 ·intro h0
  obtain⟨g,o,e1,e2,e3,e4,e5⟩:=hL h0
  exact⟨g,o,e1,e2,.inr ⟨e3,e2⟩,e4,e5⟩
 ·show W'.ownsRow 0 _ 1 v (D.later++[L]).length (lsC (D.later++[L]) (x.ls++[(a,c)]))
  rw [ls_snoc h.llen,List.length_append]
  exact hl
 ·show (x.ls++[(a,c)]).length=(D.later++[L]).length
  rw [List.length_append,List.length_append,h.llen]
  rfl
 ·intro g hg
  rcases hv with h1|⟨g',h1,h2,h3⟩
  ·exact .inl (h.lin g (by rw [<- h1];exact hg))
  ·rw [show v.ownBlock=some g from hg] at h1
   injection h1 with h1
   rw [h1]
   exact .inr ⟨h2,h3⟩
 ·intro j b l hj hjl
  have hj:(x.ls++[(a,c)])[j]?=some b:=hj
  have hjl:(D.later++[L])[j]?=some l:=hjl
  by_cases hjx:j<x.ls.length
  ·rw [List.getElem?_append_left hjx] at hj
   rw [List.getElem?_append_left (by rw [<- h.llen];exact hjx)] at hjl
   exact ((h.each j b l hj hjl).same ho.size hE).sup (fun _=>.inl)
  ·have hjz:=(List.getElem?_eq_some_iff.1 hj).1
   rw [List.length_append,List.length_singleton] at hjz
   have hje:j=x.ls.length:=by omega
   rw [hje,List.getElem?_append_right (Nat.le_refl _),Nat.sub_self] at hj
   rw [hje,h.llen,List.getElem?_append_right (Nat.le_refl _),Nat.sub_self] at hjl
   simp at hj hjl
   subst hj hjl
   intro h0
   obtain⟨g,o,e1,e2,e3,e4,e5⟩:=hL h0
   exact⟨g,o,e1,e2,.inr ⟨e3,e2⟩,e4,e5⟩
 ·rcases hk with h1|h1
  ·exact h.lo k h1
  ·exact Nat.le_trans h.bel.size h1.1
 ·rcases hk with h1|h1
  ·exact Nat.lt_of_lt_of_le (h.lt k h1) ho.size
  ·exact h1.2
 ·rintro (h1|h1)
  ·exact h.np h1
  ·omega
 ·exact ((Out.of_below h.bel).then ho (fun j _ hj=>by
   rcases hj with hj|hj
   ·rw [hj];exact h.ql
   ·exact h.lo j (h.lin j hj))).below (fun k hk _ h2=>by omega) (Nat.le_refl _)
 ·rcases hk with h1|h1
  ·exact .inr h1
  ·exact .inl (h.lin k h1)
theorem later_after {wr w8:World} {Q:Nat} {a0 a1 a2 a3 a4 a5 a6 a7 a8 a9:Value} {t u:TypeId} {s:Value} {vb:Option Nat} (hr:wr.heap[Q]?=some (.cells #[a0,a1,a2,a3,a4,a5,a6,a7,a8,a9] t (0,0))) (hg:((wr.setCell ⟨Q,0,none⟩ s).alloc (.cells #[s] u)).grownBy w8 vb) (hn:vb≠some Q) :
  w8.heap[Q]?=some (.cells #[s,a1,a2,a3,a4,a5,a6,a7,a8,a9] t (0,0)):=by
 have hQ:=(Array.getElem?_eq_some_iff.1 hr).1
 exact (hg.block Q (by simp [set_size];omega) (fun e=>hn e.symm)).trans (old_row (row_set (j:=0) hr s))
theorem infoRL:(Tryz.prog.info? 53).map (fun i=>(i.zero,i.size,i.bytes))=some (some (.slice none 0 0),1,24):=by kernel_rfl
theorem kchanged_any (w W:World) (T:Nat->Prop) (Q m m':Nat) (D:Dk) (l:List Nd) (ao:Option Addr) (cap:Nat) (h:RS w W T Q m D) (T0:Nat->Prop) (hl:LayR W T0 ao l) (hn:l.length<=10000) (hp:∀ e∈l,e.path.length<=1048576) (hm:m<=1000) (hnum:Num m' (chgR D (sortK l l.length))) :
  Calls Tryz.prog 138 #[.pointer (some ⟨Q,0,none⟩),.slice ao l.length cap] W fun r W'=>r=.returned (.tuple #[])/\RAft w W T Q m' (chgR D (sortK l l.length)) W':=by
 obtain⟨i0,hi0,hz0,hz1,hz2⟩:=info_parts infoRE
 obtain⟨n,hn'⟩:∃ n,l.length=n:=⟨_,rfl⟩
 rw [hn'] at hn hnum ⊢
 have HN:=Lib.hid hn'
 have HNum:=Lib.hid hnum
 have HL:=Lib.hid hl
 have HP:=Lib.hid hp
 have HH:=Lib.hid h
 clear hn' hl hp h hnum
 go_enter Tryz.func138,Tryz.ntmps138
 repeat (first|go_skip|go_guarded|go_step|go_upon)
 go_loopw [4,5] (fun s4 s5 wr=>∃ k:Nat,s5=.int .i64 k/\k<=n/\wr.ownsRow W.heap.size 130 2 s4 (sortK l k).length (resC (sortK l k))/\Below W.heap.size W wr) (fun _ s5 _=>n-(Go.RowKit.intOf s5).toNat)
 case atStart=>exact⟨0,rfl,Nat.zero_le _,World.ownsRow_nil _ _ _ _,Below.refl _ _⟩
 case round =>
  obtain⟨k,rfl,hk,ho,hb⟩:=hrel
  obtain⟨S,hS⟩:∃ S,sortK l k=S:=⟨_,rfl⟩
  have hSl:S.length=k:=by rw [<- hS];exact sortK_len (by rw [HN.out];exact hk)
  rw [hS,hSl] at ho
  obtain⟨a4,c4,hv4,-⟩:=owns_view ho
  subst hv4
  have HSm:Hid (∀ e∈S,e.path.length<=1048576):=Lib.hid (fun e he=>HP.out e (sortK_mem (by rw [hS];exact he)))
  have HO:=Lib.hid ho
  have HB:=Lib.hid hb
  have hbs:=hb.size
  have HLr:=HL.out.below hb
  have HS:=Lib.hid hS
  have HSl:=Lib.hid hSl
  clear ho hS hSl
  by_cases hlt:k<n
  ·have hkz:(k:Int)<n:=by omega
   obtain⟨g,o,rfl,hg,_,_,hc⟩:=HL.out (by have:=HN.out;omega)
   obtain⟨x,hx⟩:∃ x,l[k]?=some x:=⟨_,List.getElem?_eq_getElem (by rw [HN.out];exact hlt)⟩
   obtain⟨d1,d2⟩:=hc k x hx
   obtain⟨X,hX,hXd⟩:=txt_of x.path
   obtain⟨kd,hkd⟩:∃ z,x.kind=z:=⟨_,rfl⟩
   rw [hX] at d1
   rw [hkd] at d2
   have D1:=Lib.hid d1
   have D2:=Lib.hid d2
   have c1:=(hb.cell (p:=⟨g,o+k*2,none⟩) hg).trans d1
   have c2:=(hb.cell (p:=⟨g,o+k*2+1,none⟩) hg).trans d2
   have HG:=Lib.hid hg
   have HX:=Lib.hid hx
   have HXt:=Lib.hid hX
   have HXd:=Lib.hid hXd
   have HKd:=Lib.hid hkd
   have HNw:Hid (∀ (W:World) (j:Nat) (u:Value),(reC x)[j]?=some u->(W.alloc (.cells #[.string X,.int .i64 kd] 130)).cell? ((⟨W.heap.size,0,none⟩:Addr).add j)=some u):=Lib.hid (fun W=>re_new W x _ _ hX hkd)
   clear hc hx hX hXd HLr hlt hkd hb hg d1 d2
   repeat (first
    | (at_builtin;refine wpList_append_own _ rfl _ _ 53 rfl W.heap.size 130 i0 (.agg #[.string ⟨#[]⟩,.int .i64 0]) 2 24 Tryz.underlying53 hi0 hz0 hz1 hz2 rfl (by decide) _ _ _ rfl (HO.out.alloc _) ⟨wr.heap.size,0,none⟩ 1 1 (reC x) rfl rfl (HNw.out wr) (re_one _) (by unfold maxLen;omega) (by omega) (by simp;omega) ?_;intro v' w8 hown' hgrow8 hnil8;obtain⟨a8,c8,hv8,hx8⟩:=owns_view hown';obtain⟨g8,ha8,-,-,-⟩:=hx8 (by omega);subst ha8;subst hv8;have HO8:=Lib.hid hown';have HB8:Hid (Below W.heap.size W w8):=Lib.hid ((HB.out.alloc hbs _).grown hgrow8 (by simp;omega) (fun j hj=>(HO.out.lt j hj).1));clear hown' hgrow8 hnil8 hx8)
    | go_skip|go_guarded|go_step|go_upon)
   have hkz64:(k:Int)<=10000:=by omega
   have HM0:Hid (w8.ownsRow W.heap.size 130 2 (.slice (some ⟨g8,0,none⟩) (k+1) c8) (k+1) (resC (midL S x k))):=Lib.hid (by
    have h1:=HO8.out
    rw [<- res_snoc,← mid_end,HSl.out] at h1
    exact h1)
   go_loopw [6] (fun s6 wi=>∃ (a:Nat) (y:Nd),s6=.int .i64 a/\a<=k/\posR S x k=posR S x a/\wi.ownsRow W.heap.size 130 2 (.slice (some ⟨g8,0,none⟩) (k+1) c8) (k+1) (resC (midL S y a))/\Below W.heap.size W wi) (fun s6 _=>(Go.RowKit.intOf s6).toNat)
   case atStart=>exact⟨k,x,rfl,Nat.le_refl _,rfl,HM0.out,HB8.out⟩
   case round =>
    obtain⟨a,y,rfl,hak,hpos,hoi,hbi⟩:=hrel
    have HOi:=Lib.hid hoi
    have HBi:=Lib.hid hbi
    have HPos:=Lib.hid hpos
    have d1i:=(hbi.cell (p:=⟨g,o+k*2,none⟩) HG.out).trans D1.out
    clear hoi hpos
    by_cases h0:a=0
    ·have HPa:Hid (posR S x k=a):=Lib.hid (by rw [HPos.out,h0];rfl)
     have ha0:¬ (0:Int)<(a:Int):=by omega
     have ha1:¬ 0<a:=by omega
     have ha2:decide (0<a)=false:=by simpa using h0
     have ha3:decide ((0:Int)<(a:Int))=false:=by simpa using h0
     clear h0
     repeat (first|go_skip|go_guarded|go_step|go_upon)
     with_reducible refine wp_region_quiet_below (by kernel_rfl) (by kernel_rfl) ?_
     repeat (go_big_quiet_step (first|(go_at_call 90;exact D5.out _ _)))
     refine wpQuiet_nil ?_
     intro _ hw'
     obtain⟨⟨dq,osq⟩,hw''⟩:=hw'
     subst hw''
     have bq:=below_regrown wr dq osq
     have HO6:=Lib.hid (owns_below HOi.out bq)
     have HB6:Hid (Below W.heap.size W (Go.Sort.grow (redrawn wr dq) osq)):=Lib.hid (Below.trans HBi.out (bq.mono HBi.out.size))
     clear d1i bq
     generalize Go.Sort.grow (redrawn wr dq) osq=w6 at HO6 HB6 ⊢
     have e1:=(HB6.out.cell (p:=⟨g,o+k*2,none⟩) HG.out).trans D1.out
     have e2:=(HB6.out.cell (p:=⟨g,o+k*2+1,none⟩) HG.out).trans D2.out
     have hya:(midL S y a)[a]?=some y:=by
      unfold midL
      rw [List.getElem?_append_right (by rw [List.length_take];omega),List.length_take,Nat.min_eq_left (by have:=HSl.out;omega),Nat.sub_self]
      rfl
     obtain⟨YV,hYV,-⟩:=txt_of y.path
     obtain⟨yk,hyk⟩:∃ z,y.kind=z:=⟨_,rfl⟩
     obtain⟨s1,s2⟩:=own_cell HO6.out (res_at _ a y hya).1
     obtain⟨s3,s4⟩:=own_cell HO6.out (res_at _ a y hya).2
     rw [hYV] at s1
     rw [hyk] at s3
     have hak1:(a:Int)<(k:Int)+1:=by omega
     have HNext:Hid (((w6.setCell ⟨g8,a*2,none⟩ (.string X)).setCell ⟨g8,a*2+1,none⟩ (.int .i64 kd)).ownsRow W.heap.size 130 2 (.slice (some ⟨g8,0,none⟩) (k+1) c8) (sortK l (k+1)).length (resC (sortK l (k+1)))):=Lib.hid (by
      have hr:=own_set (own_set HO6.out (by omega) (a*2) (.string X)) (by omega) (a*2+1) (.int .i64 kd)
      rw [<- HXt.out,← HKd.out,res_set,mid_set (by have:=HSl.out;omega)] at hr
      have hs2:sortK l (k+1)=midL S x a:=by
       rw [sortK_succ HX.out,HS.out]
       unfold insR midL
       rw [HSl.out,HPa.out]
      rw [hs2,mid_len (by have:=HSl.out;omega),HSl.out,← HXt.out,← HKd.out]
      exact hr)
     have hgW:W.heap.size<=g8:=(HO6.out.lt g8 rfl).1
     have HBn:Hid (Below W.heap.size W ((w6.setCell ⟨g8,a*2,none⟩ (.string X)).setCell ⟨g8,a*2+1,none⟩ (.int .i64 kd))):=Lib.hid ((HB6.out.setCell (p:=⟨g8,a*2,none⟩) hgW _).setCell (p:=⟨g8,a*2+1,none⟩) hgW _)
     have hgk:(k:Int)+1<=10001:=by omega
     clear hya hYV hyk
     repeat (first|go_skip|go_guarded|go_step|go_upon)
     exact⟨⟨k+1,by go_num,by omega,HNext.out,HBn.out⟩,by simp [Go.RowKit.intOf];omega⟩
    ·have ha0:(0:Int)<(a:Int):=by omega
     have ha1:0<a:=by omega
     have ha2:decide (0<a)=true:=by simpa using ha1
     have ha3:decide ((0:Int)<(a:Int))=true:=by simpa using ha0
     obtain⟨j,hj⟩:∃ j,a-1=j:=⟨_,rfl⟩
     have hjk:j<k:=by omega
     have hwj:Go.RowKit.wrap64 ((a:Int)-1)=j:=by unfold Go.RowKit.wrap64;omega
     have hwj2:IntKind.i64.wrap ((a:Int)-1)=j:=by rw [IntKind.wrap_i64];omega
     have hwj3:(a:Int)-1=j:=by omega
     have hjz:(j:Int)<(k:Int)+1:=by omega
     obtain⟨e,he⟩:∃ e,S[j]?=some e:=⟨_,List.getElem?_eq_getElem (by have:=HSl.out;omega)⟩
     have hmid:=mid_at (y:=y) he
     rw [show j+1=a by omega] at hmid
     obtain⟨E,hE,hEd⟩:=txt_of e.path
     obtain⟨ek,hek⟩:∃ z,e.kind=z:=⟨_,rfl⟩
     obtain⟨r1,-⟩:=own_cell HOi.out (res_at _ j e hmid).1
     rw [hE] at r1
     obtain⟨z,hz⟩:∃ z,NP.ordL e.path x.path=z:=⟨_,rfl⟩
     have hes:=HSm.out e (List.mem_of_getElem? he)
     have hxs:=HP.out x (List.mem_of_getElem? HX.out)
     have C5:Hid (∀ W,Calls Tryz.prog 90 #[.string E,.string X] W fun r w'=>r=.returned (.int .i64 z)/\Below W.heap.size W w'):=Lib.hid (fun W=>by
      refine (R1.RO.rorder_any E X W (by rw [Lib.size_eq,hEd];exact hes) (by rw [Lib.size_eq,HXd.out];exact hxs)).mono ?_
      rintro r w' ⟨rfl,hb⟩
      rw [hEd,HXd.out,hz]
      exact⟨rfl,hb⟩)
     have D5:=Lib.hid (TG.reg_g (w:=wr) (fun W _=>C5.out W))
     have HPj:Hid (posR S x a=if 0<z then posR S x j else a):=Lib.hid (by
      rw [show a=j+1 by omega]
      show (if 0<NP.ordL ((S[j]?).getD x).path x.path then posR S x j else j+1)=_
      rw [he,Option.getD_some,hz])
     have HEe:=Lib.hid he
     have HEt:=Lib.hid hE
     have HEk:=Lib.hid hek
     have HMid:=Lib.hid hmid
     have HJ:Hid (j+1=a):=Lib.hid (by omega)
     have f1:=cell_regrown r1
     have f2:=cell_regrown d1i
     clear he hE hEd hek hmid hz hes hxs hj
     repeat (first|go_skip|go_guarded|go_step|go_upon)
     with_reducible refine wp_region_quiet_below (by kernel_rfl) (by kernel_rfl) ?_
     repeat (go_big_quiet_step (first|(go_at_call 90;exact D5.out _ _)))
     refine wpQuiet_nil ?_
     intro _ hw'
     obtain⟨⟨dq,osq⟩,hw''⟩:=hw'
     subst hw''
     have bq:=below_regrown wr dq osq
     have HO6:=Lib.hid (owns_below HOi.out bq)
     have HB6:Hid (Below W.heap.size W (Go.Sort.grow (redrawn wr dq) osq)):=Lib.hid (Below.trans HBi.out (bq.mono HBi.out.size))
     clear d1i r1 f1 f2 bq
     generalize Go.Sort.grow (redrawn wr dq) osq=w6 at HO6 HB6 ⊢
     by_cases hz0:0<z
     ·have HPn:Hid (posR S x k=posR S x j):=Lib.hid (by rw [HPos.out,HPj.out,if_pos hz0])
      obtain⟨t1,-⟩:=own_cell HO6.out (res_at _ j e HMid.out).1
      obtain⟨t2,-⟩:=own_cell HO6.out (res_at _ j e HMid.out).2
      rw [HEt.out] at t1
      rw [HEk.out] at t2
      have hya:(midL S y a)[a]?=some y:=by
       unfold midL
       rw [List.getElem?_append_right (by rw [List.length_take];omega),List.length_take,Nat.min_eq_left (by have:=HSl.out;omega),Nat.sub_self]
       rfl
      obtain⟨YV,hYV,-⟩:=txt_of y.path
      obtain⟨yk,hyk⟩:∃ z,y.kind=z:=⟨_,rfl⟩
      obtain⟨s1,s2⟩:=own_cell HO6.out (res_at _ a y hya).1
      obtain⟨s3,s4⟩:=own_cell HO6.out (res_at _ a y hya).2
      rw [hYV] at s1
      rw [hyk] at s3
      have hak1:(a:Int)<(k:Int)+1:=by omega
      have hgW:W.heap.size<=g8:=(HO6.out.lt g8 rfl).1
      have HNext:Hid (((w6.setCell ⟨g8,a*2,none⟩ (.string E)).setCell ⟨g8,a*2+1,none⟩ (.int .i64 ek)).ownsRow W.heap.size 130 2 (.slice (some ⟨g8,0,none⟩) (k+1) c8) (k+1) (resC (midL S e j))):=Lib.hid (by
       have hr:=own_set (own_set HO6.out (by omega) (a*2) (.string E)) (by omega) (a*2+1) (.int .i64 ek)
       rw [<- HEt.out,← HEk.out,res_set,mid_set (by have:=HSl.out;omega)] at hr
       rw [<- mid_down HEe.out,HJ.out,← HEt.out,← HEk.out]
       exact hr)
      have HBn:Hid (Below W.heap.size W ((w6.setCell ⟨g8,a*2,none⟩ (.string E)).setCell ⟨g8,a*2+1,none⟩ (.int .i64 ek))):=Lib.hid ((HB6.out.setCell (p:=⟨g8,a*2,none⟩) hgW _).setCell (p:=⟨g8,a*2+1,none⟩) hgW _)
      clear hya hYV hyk
      repeat (first|go_skip|go_guarded|go_step|go_upon)
      exact⟨⟨j,e,rfl,by omega,HPn.out,HNext.out,HBn.out⟩,by simp [Go.RowKit.intOf];omega⟩
     ·have HPa:Hid (posR S x k=a):=Lib.hid (by rw [HPos.out,HPj.out,if_neg hz0])
      have e1:=(HB6.out.cell (p:=⟨g,o+k*2,none⟩) HG.out).trans D1.out
      have e2:=(HB6.out.cell (p:=⟨g,o+k*2+1,none⟩) HG.out).trans D2.out
      have hya:(midL S y a)[a]?=some y:=by
       unfold midL
       rw [List.getElem?_append_right (by rw [List.length_take];omega),List.length_take,Nat.min_eq_left (by have:=HSl.out;omega),Nat.sub_self]
       rfl
      obtain⟨YV,hYV,-⟩:=txt_of y.path
      obtain⟨yk,hyk⟩:∃ z,y.kind=z:=⟨_,rfl⟩
      obtain⟨s1,s2⟩:=own_cell HO6.out (res_at _ a y hya).1
      obtain⟨s3,s4⟩:=own_cell HO6.out (res_at _ a y hya).2
      rw [hYV] at s1
      rw [hyk] at s3
      have hak1:(a:Int)<(k:Int)+1:=by omega
      have HNext:Hid (((w6.setCell ⟨g8,a*2,none⟩ (.string X)).setCell ⟨g8,a*2+1,none⟩ (.int .i64 kd)).ownsRow W.heap.size 130 2 (.slice (some ⟨g8,0,none⟩) (k+1) c8) (sortK l (k+1)).length (resC (sortK l (k+1)))):=Lib.hid (by
       have hr:=own_set (own_set HO6.out (by omega) (a*2) (.string X)) (by omega) (a*2+1) (.int .i64 kd)
       rw [<- HXt.out,← HKd.out,res_set,mid_set (by have:=HSl.out;omega)] at hr
       have hs2:sortK l (k+1)=midL S x a:=by
        rw [sortK_succ HX.out,HS.out]
        unfold insR midL
        rw [HSl.out,HPa.out]
       rw [hs2,mid_len (by have:=HSl.out;omega),HSl.out,← HXt.out,← HKd.out]
       exact hr)
      have hgW:W.heap.size<=g8:=(HO6.out.lt g8 rfl).1
      have HBn:Hid (Below W.heap.size W ((w6.setCell ⟨g8,a*2,none⟩ (.string X)).setCell ⟨g8,a*2+1,none⟩ (.int .i64 kd))):=Lib.hid ((HB6.out.setCell (p:=⟨g8,a*2,none⟩) hgW _).setCell (p:=⟨g8,a*2+1,none⟩) hgW _)
      have hgk:(k:Int)+1<=10001:=by omega
      clear hya hYV hyk
      repeat (first|go_skip|go_guarded|go_step|go_upon)
      exact⟨⟨k+1,by go_num,by omega,HNext.out,HBn.out⟩,by simp [Go.RowKit.intOf];omega⟩
  ·have hkz:¬ (k:Int)<n:=by omega
   obtain rfl:k=n:=by omega
   obtain⟨i1,hi1,hy0,hy1,hy2⟩:=info_parts infoRL
   obtain⟨x,hx⟩:=HH.out
   have HX:=Lib.hid hx
   have hr:=hx.row
   have hQ:=(Array.getElem?_eq_some_iff.1 hr).1
   have hlv:=hx.later
   have hnl:=hx.num.later
   unfold rdC at hr
   have HR:=Lib.hid hr
   obtain⟨c0,-,c2,-,-,-,-,-,-,-,cf⟩:=row10 hr
   have q0:=(hb.cell (p:=⟨Q,0,none⟩) hQ).trans c0
   have q2:=(hb.cell (p:=⟨Q,2,none⟩) hQ).trans c2
   have qf:∀ j,wr.frozen? ⟨Q,j,none⟩=false:=fun j=>(hb.frozen (p:=⟨Q,j,none⟩) hQ).trans (cf j)
   have hqw:Q<wr.heap.size:=by omega
   obtain⟨vl,hvl⟩:∃ v,x.vl=v:=⟨_,rfl⟩
   rw [hvl] at q2 hlv
   obtain⟨al,cl,hvl2,-⟩:=owns_view hlv
   subst hvl2
   have HVl:=Lib.hid hvl
   have HOl:=Lib.hid (owns_below hlv hb)
   obtain⟨nl,hnl'⟩:∃ n,D.later.length=n:=⟨_,rfl⟩
   have HNl:=Lib.hid hnl'
   rw [hnl'] at hnl q2
   clear hlt HLr hb hx hr c0 c2 hlv hvl hnl'
   have hnl2:nl<=2097152000:=by omega
   have HO1:Hid (((wr.setCell ⟨Q,0,none⟩ (.slice a4 k c4)).alloc (.cells #[.slice a4 k c4] 53)).ownsRow 0 53 1 (.slice al nl cl) nl (lsC D.later x.ls)):=Lib.hid (by
    have h1:=HOl.out
    rw [HNl.out] at h1
    refine World.ownsRow.alloc (own_same h1 fun g hg=>set_other wr Q 0 g _ (fun e=>HX.out.np (e ▸ HX.out.lin g (by rw [HVl.out,HNl.out];exact hg)))) _)
   have HN1:Hid (∀ (j:Nat) (u:Value),([.slice a4 k c4]:List Value)[j]?=some u->((wr.setCell ⟨Q,0,none⟩ (.slice a4 k c4)).alloc (.cells #[.slice a4 k c4] 53)).cell? ((⟨wr.heap.size,0,none⟩:Addr).add j)=some u):=Lib.hid (fun j u hu=>by
    have:=one_new (wr.setCell ⟨Q,0,none⟩ (.slice a4 k c4)) (.slice a4 k c4) 53 j u hu
    rw [set_size] at this
    exact this)
   have HRw:Hid (wr.heap[Q]?=some (.cells #[.slice x.an D.names.length x.cn,.slice x.as_ D.safe.length x.cs,x.vl,x.vi,.bool D.off,.int .i64 (D.trace.length:Nat),.int .i64 (D.clock:Nat),x.vt,.slice x.af D.fates.length x.cf,.slice x.ae D.edits.length x.ce] 57 (0,0))):=Lib.hid ((HB.out.block Q hQ).trans HR.out)
   have HNQ:Hid ((Value.slice al nl cl).ownBlock≠some Q):=Lib.hid (fun e=>HX.out.np (HX.out.lin Q (by rw [HVl.out,HNl.out];exact e)))
   have HU0:Hid (Out (fun k=>k=Q∨x.vl.ownBlock=some k) W ((wr.setCell ⟨Q,0,none⟩ (.slice a4 k c4)).alloc (.cells #[.slice a4 k c4] 53))):=Lib.hid ((((Out.refl _ W).thenBelow HB.out).setCell (p:=⟨Q,0,none⟩) (fun _=>.inl rfl) _).alloc _)
   repeat (first
    | (at_builtin;refine wpList_append_own_at _ rfl _ _ 54 rfl 0 53 i1 (.slice none 0 0) 1 24 Tryz.underlying54 hi1 hy0 hy1 hy2 rfl (by decide) _ _ _ rfl HO1.out ⟨wr.heap.size,0,none⟩ 1 1 [.slice a4 k c4] rfl rfl HN1.out (fun u hu=>by rw [List.mem_singleton.1 hu];rfl) (by unfold maxLen;omega) (by omega) (by omega) ?_;intro v' w8 hown' hgrow8 hnil8 hblk8;obtain⟨a8,c8,hv8,-⟩:=owns_view hown';subst hv8;have HBk:=Lib.hid hblk8;have hq8:=later_after HRw.out hgrow8 HNQ.out;have HQ8:=Lib.hid hq8;obtain⟨-,-,p2,-,-,-,-,-,-,-,pf⟩:=row10 hq8;have HO8:=Lib.hid hown';have HG8:=Lib.hid hgrow8;clear hown' hgrow8 hnil8 hq8 hblk8)
    | go_skip|go_guarded|go_step|go_upon)
   go_end0
   refine⟨rfl,?_⟩
   have hvl3:x.vl.ownBlock=(Value.slice al nl cl).ownBlock:=by rw [HVl.out,HNl.out]
   have hou:Out (fun k=>k=Q∨x.vl.ownBlock=some k) W (w8.setCell ⟨Q,2,none⟩ (.slice a8 (nl+1) c8)):=(HU0.out.grown HG8.out (fun k hk _=>.inr (by rw [hvl3];exact hk))).setCell (p:=⟨Q,2,none⟩) (fun _=>.inl rfl) _
   have hnum:=HNum.out
   rw [HS.out] at hnum
   rw [HS.out]
   have hQ8:∀ g,g≠Q->(w8.setCell ⟨Q,2,none⟩ (.slice a8 (nl+1) c8)).heap[g]?=w8.heap[g]?:=fun g hg=>set_other w8 Q 2 g _ hg
   have hgk:∀ g,(Value.slice a4 k c4).ownBlock=some g->W.heap.size<=g:=fun g hg=>(HO.out.lt g hg).1
   refine HX.out.newNames (L:=S) (a:=a4) (c:=c4) (v:=.slice a8 (nl+1) c8) hou ?_ ?_ ?_ ?_ hnum
   ·rw [row_set (j:=2) HQ8.out (.slice a8 (nl+1) c8)]
    unfold rdC chgR
    simp only
    rw [HSl.out]
    rfl
   ·have hown:(w8.setCell ⟨Q,2,none⟩ (.slice a8 (nl+1) c8)).ownsRow W.heap.size 130 2 (.slice a4 k c4) k (resC S):=own_same HO.out fun g hg=>by
     have hty:=own_type HO.out g hg
     have hlt:=(HO.out.lt g hg).2
     have hgQ:g≠Q:=by have:=hgk g hg;omega
     rw [hQ8 g hgQ]
     refine (HG8.out.block g (by simp [set_size];omega) (fun e=>?_)).trans ?_
     ·have h3:IsT wr g 53:=own_type HOl.out g (by rw [HNl.out];exact e.symm)
      exact h3.ne hty (by decide) rfl
     ·exact (Below.heap_alloc _ _ g (by rw [set_size];omega)).trans (set_other wr Q 0 g _ hgQ)
    rw [<- HSl.out] at hown
    obtain⟨ao',c',he,hlay⟩:=layR_own (T:=fun k=>W.heap.size<=k) hown (fun g hg=>hgk g (by rw [<- HSl.out];exact hg))
    injection he with he _ _
    rw [he]
    exact hlay
   ·have h1:=own_same HO8.out fun g hg=>hQ8 g (fun e=>(own_type HO8.out g hg).ne ⟨_,_,e ▸ HQ8.out⟩ (by decide) rfl)
    rw [HNl.out]
    have h2:slV S (a4,c4)=.slice a4 k c4:=by unfold slV;rw [HSl.out]
    rw [h2]
    exact h1
   ·rcases HBk.out with h1|h1
    ·exact .inl (by rw [hvl3];exact h1)
    ·refine .inr ⟨_,h1,?_,?_⟩
     ·have:=HB.out.size
      simp [set_size]
      omega
     ·have h2:=own_type HO8.out _ h1
      obtain⟨cc,fz,h3⟩:=h2
      have:=(Array.getElem?_eq_some_iff.1 h3).1
      rw [set_size]
      exact this
end RK
end Go.Proofs.YtmohjalanhnhbaaGreatDoor