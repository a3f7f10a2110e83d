import Derived.Test.YtmohjalanhnhbaaGreatDoorMg3
import Derived.Test.YtmohjalanhnhbaaGreatDoorRkChg
set_option linter.all false
set_option maxRecDepth 100000
set_option maxHeartbeats 25600000
namespace Go.Proofs.YtmohjalanhnhbaaGreatDoor
open Go.RowKit Go.Lib Go.BigFrame
namespace RK
open OM TP TM DP DM FP DG TG TR
def inosR (D:Dk) (I:List Ino):Dk:={ D with inos:=I }
theorem RX.growInos {w W W':World} {T:Nat->Prop} {Q m m':Nat} {D:Dk} {x:RP} {I:List Ino} {v:Value} (h:RX w T W Q m D x) (ho:Out (fun k=>k=Q∨x.vi.ownBlock=some k) W W')
  (hrow:W'.heap[Q]?=some (.cells (rdC (inosR D I) { x with vi:=v }) 57 (0,0)))
  (hi:W'.ownsRow 0 128 5 v I.length (risC I)) (hv:v.ownBlock=x.vi.ownBlock∨∃ g,v.ownBlock=some g/\W.heap.size<=g/\g<W'.heap.size) (hnum:Num m' (inosR D I)) :
  ∃ T',RX w T' W' Q m' (inosR D I) { x with vi:=v }/\(∀ k,T' k->T k∨W.heap.size<=k)/\Out (fun k=>T k∨k=Q) W W':=by
 have hQ:=(Array.getElem?_eq_some_iff.1 h.row).1
 have hne:∀ k,T k->x.vi.ownBlock≠some k->W'.heap[k]?=W.heap[k]?:=fun k hk hn=>ho.block k (h.lt k hk) (fun e=>by
  rcases e with e|e
  ·exact h.np (e ▸ hk)
  ·exact hn e)
 have hlt:∀ k,x.vi.ownBlock=some k->IsT W k 128:=fun k hk=>own_type h.inos k hk
 have hE:∀ g,T g->IsT W g 130->W'.heap[g]?=W.heap[g]?:=fun g hg hi=>hne g hg (fun e=>(hlt g e).ne hi (by decide) rfl)
 have hI:∀ g,x.vl.ownBlock=some g->W'.heap[g]?=W.heap[g]?:=fun g hg=>hne g (h.lin g hg) (fun e=>(hlt g e).ne (own_type h.later g hg) (by decide) rfl)
 have hT:∀ g,x.vt.ownBlock=some g->W'.heap[g]?=W.heap[g]?:=fun g hg=>hne g (h.tin g hg) (fun e=>(hlt g e).ne (own_type h.trace g hg) (by decide) rfl)
 refine⟨fun k=>T k∨(W.heap.size<=k/\k<W'.heap.size),⟨hrow,(h.names.same ho.size hE).sup (fun _=>.inl),(h.safe.same ho.size hE).sup (fun _=>.inl),own_same h.later hI,h.llen,(fun g hg=>.inl (h.lin g hg)),(fun j a l h1 h2=>((h.each j a l h1 h2).same ho.size hE).sup (fun _=>.inl)),hi,?_,own_same h.trace hT,(fun g hg=>.inl (h.tin g hg)),h.fates,h.edits,h.epath,fun k hk=>?_,h.ql,fun k hk=>?_,?_,?_,hnum⟩,fun k hk=>hk.imp id (·.1),ho.mono (fun k _ hk=>?_)⟩
 ·intro g hg
  have hg:v.ownBlock=some g:=hg
  rcases hv with h1|⟨g',h1,h2,h3⟩
  ·exact .inl (h.iin g (by rw [<- h1];exact hg))
  ·rw [hg] at h1
   injection h1 with h1
   rw [h1]
   exact .inr ⟨h2,h3⟩
 ·rcases hk with h1|h1
  ·exact h.lo k h1
  ·exact Nat.le_trans h.bel.size h1.1
 ·rcases hk with h1|h1
  ·exact Nat.lt_of_lt_of_le (h.lt k h1) ho.size
  ·exact h1.2
 ·rintro (h1|h1)
  ·exact h.np h1
  ·omega
 ·exact ((Out.of_below h.bel).then ho (fun j _ hj=>by
   rcases hj with hj|hj
   ·rw [hj];exact h.ql
   ·exact h.lo j (h.iin j hj))).below (fun k hk _ h2=>by omega) (Nat.le_refl _)
 ·rcases hk with h1|h1
  ·exact .inr h1
  ·exact .inl (h.iin k h1)
theorem ri_new (W:World) (i:Ino) (V:Value) (hV:txt i.data=V):∀ (j:Nat) (u:Value),(riC i)[j]?=some u->(W.alloc (.cells #[.int .i64 i.kind,.int .i64 i.mode,.int .i64 i.time,V,.bool i.dirty] 128)).cell? ((⟨W.heap.size,0,none⟩:Addr).add j)=some u:=by
 subst hV
 intro j u hu
 have e1:(⟨W.heap.size,0,none⟩:Addr).add j=⟨W.heap.size,j,none⟩:=by simp [Addr.add];omega
 rw [e1,cell_of_row _ _ j _ _ _ (heap_alloc_new W _),← hu]
 show (riC i).toArray[j]?=_
 simp
theorem res_cell {W:World} {g o:Nat} {l:List Nd} (h:∀ (k:Nat) (e:Nd),l[k]?=some e->REAt W g (o+k*2) e):∀ (j:Nat) (u:Value),(resC l)[j]?=some u->W.cell? ((⟨g,o,none⟩:Addr).add j)=some u:=by
 intro j u hu
 have hj:=(List.getElem?_eq_some_iff.1 hu).1
 rw [res_len] at hj
 obtain⟨k,r,e,hr⟩:∃ k r,j=k*2+r/\r<2:=⟨j / 2,j % 2,by omega,by omega⟩
 have hk:k<l.length:=by omega
 obtain⟨x,hx⟩:∃ x,l[k]?=some x:=⟨l[k],List.getElem?_eq_getElem hk⟩
 have ha:=res_at l k x hx
 have hc:=h k x hx
 have e1:(⟨g,o,none⟩:Addr).add j=⟨g,o+j,none⟩:=by simp [Addr.add]
 rw [e1]
 rcases (show r=0∨r=1 by omega) with e2|e2
 ·subst e2
  rw [e,Nat.add_zero] at hu ⊢
  rw [ha.1] at hu
  exact hc.p.trans hu
 ·subst e2
  rw [e] at hu ⊢
  rw [ha.2] at hu
  rw [<- Nat.add_assoc]
  exact hc.i.trans hu
theorem run_copy (W:World) (base:Nat) (T:Nat->Prop) (ao:Option Addr) (cap n:Nat) (l:List Nd) (v:Value) (hl:LayR W T ao l) (hown:W.ownsRow base 130 2 v 0 []) (hb:base<=W.heap.size) (hn:l.length<=10000) (hnn:l.length=n) :
  ∃ v' w',(Builtin.append_ #[53,53] 53 #[v,.slice ao n cap]).run Tryz.prog W=.ok v' w'/\w'.ownsRow base 130 2 v' n (resC l)/\W.grownBy w' v.ownBlock:=by
 obtain⟨i1,hi1,hy0,hy1,hy2⟩:=info_parts infoRE
 subst hnn
 by_cases h0:0<l.length
 ·obtain⟨g,o,e,hlt,ht,hi,hc⟩:=hl h0
  subst e
  obtain⟨v',w',h1,h2,h3,-⟩:=run_append_own (P:=Tryz.prog) W base 53 53 130 i1 _ 2 24 Tryz.underlying53 hi1 hy0 hy1 hy2 rfl (by decide) v 0 [] hown ⟨g,o,none⟩ l.length cap (resC l) (res_len l) (res_cell hc) (res_one l) (by unfold maxLen;omega) (by omega) hb
  rw [Nat.zero_add,List.nil_append] at h2
  exact⟨v',w',h1,h2,h3⟩
 ·obtain rfl:l=[]:=by cases l with|nil=>rfl|cons _ _=>simp at h0
  cases ao with
  | some a0 =>
   obtain⟨v',w',h1,h2,h3,-⟩:=run_append_own (P:=Tryz.prog) W base 53 53 130 i1 _ 2 24 Tryz.underlying53 hi1 hy0 hy1 hy2 rfl (by decide) v 0 [] hown a0 0 cap [] rfl (fun j u hu=>by simp at hu) (fun u hu=>by simp at hu) (by unfold maxLen;omega) (by omega) hb
   exact⟨v',w',h1,h2,h3⟩
  | none =>
   refine⟨v,W,?_,hown,⟨rfl,rfl,rfl,Nat.le_refl _,fun _ _ _=>rfl⟩⟩
   show (Builtin.append_ #[53,53] 53 #[v,.slice none 0 cap]).run Tryz.prog W=.ok v W
   rcases hown.2 with ⟨rfl,h4⟩|⟨g,cap',cur,rfl,_,_,hnc,_⟩
   ·simp [Builtin.append_,run_underlying Tryz.underlying53,sizeOf,typeInfo,hi1,Builtin.lenOf,Builtin.firstCells]
   ·simp [Builtin.append_,run_underlying Tryz.underlying53,sizeOf,typeInfo,hi1,Builtin.lenOf,Builtin.firstCells,hnc,storeCells]
def withR (D:Dk) (p:List UInt8) (i:Ino):Dk:=chgR (inosR D (D.inos++[i])) (sortK (D.names++[en p (D.inos.length+1:Nat)]) (D.names.length+1))
theorem kwith_any (w W:World) (T:Nat->Prop) (Q m m':Nat) (D:Dk) (p:List UInt8) (i:Ino) (h:RS w W T Q m D) (hl:D.names.length<=5000) (hm:m<=1000) (hnum:Num m (inosR D (D.inos++[i]))) (hnum2:Num m' (withR D p i)) (hp:∀ e∈D.names,e.path.length<=1048576) (hpp:p.length<=1048576) :
  Calls Tryz.prog 136 #[.pointer (some ⟨Q,0,none⟩),txt p,riV i] W fun r W'=>r=.returned (.tuple #[])/\RAft w W T Q m' (withR D p i) W':=by
 obtain⟨i0,hi0,hz0,hz1,hz2⟩:=info_parts infoRI
 obtain⟨i1,hi1,hy0,hy1,hy2⟩:=info_parts infoRE
 obtain⟨x,hx⟩:=h
 have HX:=Lib.hid hx
 have hr:=hx.row
 have hlt:=(Array.getElem?_eq_some_iff.1 hr).1
 have hbn:=num_inos hx.num hm
 have hiv:=hx.inos
 unfold rdC at hr
 have HR:=Lib.hid hr
 obtain⟨vi,hvi⟩:∃ v,x.vi=v:=⟨_,rfl⟩
 rw [hvi] at hr hiv
 obtain⟨ai,ci,hvi2,-⟩:=owns_view hiv
 subst hvi2
 obtain⟨n,hn⟩:∃ n,D.inos.length=n:=⟨_,rfl⟩
 rw [hn] at hr hiv hbn
 obtain⟨c0,-,-,c3,-,-,-,-,-,-,cf⟩:=row10 hr
 have HV:=Lib.hid hvi
 have HN:=Lib.hid hn
 have hbn1:=num_inos hnum hm
 rw [show (inosR D (D.inos++[i])).inos.length=n+1 by show (D.inos++[i]).length=_;rw [List.length_append,hn];rfl] at hbn1
 have HOi:=Lib.hid hiv
 obtain⟨V,hV,_⟩:=txt_of i.data
 obtain⟨P,hP,hPd⟩:=txt_of p
 unfold riV
 rw [hV,hP]
 clear hx hr hiv hvi hn
 go_enter Tryz.func136,Tryz.ntmps136
 repeat (first|go_skip|go_guarded|go_step|go_upon)
 have b1:Below W.heap.size W (W.alloc (.cells #[.int .i64 i.kind,.int .i64 i.mode,.int .i64 i.time,.string V,.bool i.dirty] 128)):=(Below.refl _ _).alloc (Nat.le_refl _) _
 have RB:=heap_alloc_new W (.cells #[.int .i64 i.kind,.int .i64 i.mode,.int .i64 i.time,.string V,.bool i.dirty] 128)
 obtain⟨s0,s1,s2,s3,s4⟩:=row5 RB
 have w3:=(b1.cell (p:=⟨Q,3,none⟩) hlt).trans c3
 obtain⟨W1,hW1⟩:∃ W1,(W.alloc (.cells #[.int .i64 i.kind,.int .i64 i.mode,.int .i64 i.time,.string V,.bool i.dirty] 128))=W1:=⟨_,rfl⟩
 have hW1s:W.heap.size<W1.heap.size:=by rw [<- hW1];simp
 rw [hW1] at b1 RB s0 s1 s2 s3 s4 w3 ⊢
 have B1:=Lib.hid b1
 have RB1:=Lib.hid RB
 have HO1:=Lib.hid (owns_below HOi.out b1)
 have HNew:Hid (∀ (j:Nat) (u:Value),(riC i)[j]?=some u->(W1.drew.alloc (.cells #[.int .i64 i.kind,.int .i64 i.mode,.int .i64 i.time,.string V,.bool i.dirty] 128)).cell? ((⟨W1.heap.size,0,none⟩:Addr).add j)=some u):=Lib.hid (ri_new W1.drew i _ hV)
 clear hW1 RB b1
 refine wp_region_noPanic ?_
 with_reducible refine QT.region_pick (S:=fun w'=>w'.cell? ⟨W.heap.size,0,none⟩=some (.int .i64 i.kind)/\w'.cell? ⟨W.heap.size,1,none⟩=some (.int .i64 i.mode)/\w'.cell? ⟨W.heap.size,2,none⟩=some (.int .i64 i.time)/\w'.cell? ⟨W.heap.size,3,none⟩=some (.string V)/\w'.cell? ⟨W.heap.size,4,none⟩=some (.bool i.dirty)/\w'.cell? ⟨Q,3,none⟩=some (.slice ai n ci)) [0,1,2,3,4,5] [6,7] 8 (by kernel_rfl) (by kernel_rfl) ?_ ?_ ?_
 ·exact fun _ _ _ _ _ h=>h
 ·exact⟨s0,s1,s2,s3,s4,w3⟩
 intro _
 simp only [QT.pick,List.filterMap_cons,List.filterMap_nil,List.getElem?_cons_succ,List.getElem?_cons_zero,List.drop_succ_cons,List.drop_zero]
 iterate 6 (refine QT.wpTake_cons _ (by rfl) (by intro w' hSw;obtain⟨y0,y1,y2,y3,y4,y5⟩:=hSw;go_simp;first|done|rfl) ?_;try simp only [Act.put,List.setIfInBounds_toArray,List.set_cons_zero,List.set_cons_succ])
 refine QT.wpTake_nil ?_
 intro K' hK
 rw [if_pos (by rfl)]
 go_simp
 have bA:Below W1.heap.size W1 (W1.alloc (.cells #[.int .i64 i.kind,.int .i64 i.mode,.int .i64 i.time,.string V,.bool i.dirty] 128)).drew:=((Below.refl _ _).alloc (Nat.le_refl _) _).drew
 have rowA:=(bA.block _ hW1s).trans RB1.out
 have hQ1:Q<W1.heap.size:=by omega
 have a3:=(bA.cell (p:=⟨Q,3,none⟩) hQ1).trans w3
 obtain⟨u0,u1,u2,u3,u4⟩:=row5 rowA
 refine hK.out _ _ ⟨u0,u1,u2,u3,u4,a3⟩ ?_
 clear hK K'
 try simp only [Act.put,List.setIfInBounds_toArray,List.set_cons_zero,List.set_cons_succ]
 have HOA:Hid ((W1.alloc (.cells #[.int .i64 i.kind,.int .i64 i.mode,.int .i64 i.time,.string V,.bool i.dirty] 128)).drew.ownsRow 0 128 5 (.slice ai n ci) n (risC D.inos)):=Lib.hid (owns_below HO1.out bA)
 have HNA:Hid (∀ (j:Nat) (u:Value),(riC i)[j]?=some u->(W1.alloc (.cells #[.int .i64 i.kind,.int .i64 i.mode,.int .i64 i.time,.string V,.bool i.dirty] 128)).drew.cell? ((⟨W1.heap.size,0,none⟩:Addr).add j)=some u):=Lib.hid (fun j u hu=>HNew.out j u hu)
 have HBA:Hid (Below W.heap.size W (W1.alloc (.cells #[.int .i64 i.kind,.int .i64 i.mode,.int .i64 i.time,.string V,.bool i.dirty] 128)).drew):=Lib.hid (Below.trans B1.out (bA.mono B1.out.size))
 have HRA:=Lib.hid rowA
 have hWA:W.heap.size<(W1.alloc (.cells #[.int .i64 i.kind,.int .i64 i.mode,.int .i64 i.time,.string V,.bool i.dirty] 128)).drew.heap.size:=Nat.lt_of_lt_of_le hW1s bA.size
 clear bA rowA s0 s1 s2 s3 s4 w3
 generalize (W1.alloc (.cells #[.int .i64 i.kind,.int .i64 i.mode,.int .i64 i.time,.string V,.bool i.dirty] 128)).drew=WA at HOA HNA HBA HRA hWA u0 u1 u2 u3 u4 a3 ⊢
 obtain⟨v',w',hrun,hown',hgrow',hnil',hblk'⟩:=run_append_own_at (P:=Tryz.prog) WA 0 55 55 128 i0 _ 5 48 Tryz.underlying55 hi0 hz0 hz1 hz2 rfl (by decide) (.slice ai n ci) n (risC D.inos) HOA.out ⟨W1.heap.size,0,none⟩ 1 1 (riC i) rfl HNA.out (ri_one i) (by unfold maxLen;omega) hbn1 (Nat.zero_le _)
 intro K' hK
 refine step_app_eq rfl (.tmp 10) (.tmp 12) 55 55 rfl (.slice ai n ci) (.slice (some ⟨W1.heap.size,0,none⟩) 1 1) rfl rfl hrun ?_
 have hnQ:(Value.slice ai n ci).ownBlock≠some Q:=fun e=>HX.out.np (HX.out.iin Q (by rw [HV.out,HN.out];exact e))
 have hnW:(Value.slice ai n ci).ownBlock≠some W.heap.size:=fun e=>by
  have:=HX.out.lt W.heap.size (HX.out.iin _ (by rw [HV.out,HN.out];exact e))
  omega
 have rowB:=(hgrow'.block W.heap.size hWA (fun e=>hnW e.symm)).trans HRA.out
 obtain⟨x0,x1,x2,x3,x4⟩:=row5 rowB
 have HNQ:=Lib.hid hnQ
 have hQA:Q<WA.heap.size:=by omega
 have rowQ:=(hgrow'.block Q hQA (fun e=>hnQ e.symm)).trans ((HBA.out.block Q hlt).trans HR.out)
 have hQrow:=Lib.hid rowQ
 obtain⟨z0,-,-,z3,-,-,-,-,-,-,zf⟩:=row10 rowQ
 rw [HV.out,HN.out] at z3
 refine hK.out _ _ ⟨x0,x1,x2,x3,x4,z3⟩ ?_
 clear hK K'
 refine QT.wpDo_nil ?_
 try simp only [Act.put,List.setIfInBounds_toArray,List.set_cons_zero,List.set_cons_succ]
 obtain⟨a8,c8,hv8,-⟩:=owns_view hown'
 subst hv8
 have HO8:=Lib.hid hown'
 have HG8:=Lib.hid hgrow'
 have HBk:=Lib.hid hblk'
 clear hrun hown' hgrow' hnil' hblk' u0 u1 u2 u3 u4 a3 x0 x1 x2 x3 x4 rowB rowQ hnQ hnW
 repeat (first|go_skip|go_guarded|go_step|go_upon)
 refine NoPanic.normal ?_
 repeat (first|go_skip|go_guarded|go_step|go_upon)
 have hlt8:∀ g,(Value.slice a8 (n+1) c8).ownBlock=some g->g≠Q:=by
  intro g hg e
  subst e
  rcases HBk.out with h1|h1
  ·rw [h1] at hg
   exact HNQ.out hg
  ·rw [h1] at hg
   injection hg with hg
   omega
 obtain⟨T1,hx1,hs1,ho1⟩:∃ T',RX w T' (w'.setCell ⟨Q,3,none⟩ (.slice a8 (n+1) c8)) Q m (inosR D (D.inos++[i])) { x with vi:=.slice a8 (n+1) c8 }/\(∀ k,T' k->T k∨W.heap.size<=k)/\Out (fun k=>T k∨k=Q) W (w'.setCell ⟨Q,3,none⟩ (.slice a8 (n+1) c8)):=by
  refine HX.out.growInos (I:=D.inos++[i]) (v:=.slice a8 (n+1) c8) ((((Out.refl _ W).thenBelow HBA.out).grown HG8.out (fun k hk _=>.inr (by rw [HV.out,HN.out];exact hk))).setCell (p:=⟨Q,3,none⟩) (fun _=>.inl rfl) _) ?_ ?_ ?_ hnum
  ·rw [row_set (j:=3) hQrow.out (.slice a8 (n+1) c8)]
   unfold rdC inosR
   rfl
  ·have h1:=own_same HO8.out fun g hg=>set_other w' Q 3 g (.slice a8 (n+1) c8) (hlt8 g hg)
   rw [ris_snoc,List.length_append,HN.out]
   exact h1
  ·rcases HBk.out with h1|h1
   ·exact .inl (by rw [HV.out,HN.out];exact h1)
   ·refine .inr ⟨WA.heap.size,h1,HBA.out.size,?_⟩
    rw [set_size]
    exact (HO8.out.lt _ h1).2
 clear hlt8 HO8 HG8 HBk HNQ hQrow z0 z3 zf HOA HNA HBA HRA hWA hQ1 hQA HNew RB1 HO1 B1 hW1s c0 c3 cf HOi hbn hbn1
 generalize w'.setCell ⟨Q,3,none⟩ (.slice a8 (n+1) c8)=W2 at hx1 ho1 ⊢
 have hr2:=hx1.row
 unfold rdC inosR at hr2
 simp only at hr2
 obtain⟨q0,-,-,q3,-⟩:=row10 hr2
 have hQ2:=(Array.getElem?_eq_some_iff.1 hr2).1
 have HLR:Hid (LayR W2 T1 x.an D.names):=Lib.hid hx1.names
 have HX1:=Lib.hid hx1
 have HS1:=Lib.hid hs1
 have HO2:=Lib.hid ho1
 obtain⟨N,hNn⟩:∃ N,D.names.length=N:=⟨_,rfl⟩
 rw [hNn] at q0 hl
 have HNN:=Lib.hid hNn
 clear hr2 hx1 hs1 ho1 hNn
 refine wp_region_noPanic ?_
 with_reducible refine QT.region_fork (S:=fun w'=>w'.cell? ⟨Q,0,none⟩=some (.slice x.an N x.cn)/\w'.cell? ⟨Q,3,none⟩=some (.slice a8 (n+1) c8)) [0,2,3,4,5,7,8,9,10,11,12,13] 4 16 (by kernel_rfl) (by kernel_rfl) ?_ ?_ ?_
 ·exact fun _ _ _ _ _ h=>h
 ·exact⟨q0,q3⟩
 intro _
 simp only [QT.pick,List.filterMap_cons,List.filterMap_nil,List.getElem?_cons_succ,List.getElem?_cons_zero,List.drop_succ_cons,List.drop_zero]
 iterate 12 (refine QT.wpTake_cons _ (by rfl) (by intro w' hSw;obtain⟨y0,y1⟩:=hSw;go_simp;first|done|rfl) ?_;try simp only [Act.put,List.setIfInBounds_toArray,List.set_cons_zero,List.set_cons_succ])
 refine QT.wpTake_nil ?_
 have hwith:withR D p i=chgR (inosR D (D.inos++[i])) (sortK (D.names++[en p ((n+1:Nat):Int)]) (N+1)):=by unfold withR;rw [HN.out,HNN.out]
 have hcast:((n+1:Nat):Int)=(n:Int)+1:=by omega
 have hll:(D.names++[en p ((n+1:Nat):Int)]).length=N+1:=by rw [List.length_append,HNN.out];rfl
 have hS:∀ wa:World,Below W2.heap.size W2 wa->wa.cell? ⟨Q,0,none⟩=some (.slice x.an N x.cn)/\wa.cell? ⟨Q,3,none⟩=some (.slice a8 (n+1) c8):=fun wa hb=>⟨(hb.cell (p:=⟨Q,0,none⟩) hQ2).trans q0,(hb.cell (p:=⟨Q,3,none⟩) hQ2).trans q3⟩
 have hChg:∀ (wa:World) (ao:Option Addr) (c:Nat),Below W2.heap.size W2 wa->wa.ownsRow W2.heap.size 130 2 (.slice ao (N+1) c) (N+1) (resC D.names++reC (en p ((n+1:Nat):Int)))->Calls Tryz.prog 138 #[.pointer (some ⟨Q,0,none⟩),.slice ao (N+1) c] wa fun r W'=>r=.returned (.tuple #[])/\RAft w wa T1 Q m' (withR D p i) W':=by
  intro wa ao c hb ho
  rw [<- res_snoc,← hll] at ho
  obtain⟨ao',c',hv,hL⟩:=layR_own (T:=fun _=>True) ho (fun _ _=>trivial)
  injection hv with hv1 _ hv3
  subst hv1
  have h1:=kchanged_any w wa T1 Q m m' (inosR D (D.inos++[i])) (D.names++[en p ((n+1:Nat):Int)]) ao c ⟨_,HX1.out.below hb⟩ (fun _=>True) hL (by rw [hll];omega) (fun e he=>by
   rcases List.mem_append.1 he with h|h
   ·exact hp e h
   ·rw [List.mem_singleton.1 h];exact hpp) hm (by rw [hll,← hwith];exact hnum2)
  rw [hll,← hwith] at h1
  exact h1
 have hCopy:∀ (wa:World) (g:Nat),Below W2.heap.size W2 wa->W2.heap.size<=g->wa.ownsRow W2.heap.size 130 2 (.slice (some ⟨g,0,none⟩) 0 0) 0 []->∃ (a9:Option Addr) (c9:Nat) (w5:World),(Builtin.append_ #[53,53] 53 #[.slice (some ⟨g,0,none⟩) 0 0,.slice x.an N x.cn]).run Tryz.prog wa=.ok (.slice a9 N c9) w5/\w5.ownsRow W2.heap.size 130 2 (.slice a9 N c9) N (resC D.names)/\Below W2.heap.size W2 w5/\(∀ b,b≠g->b<wa.heap.size->w5.heap[b]?=wa.heap[b]?):=by
  intro wa g hb hg ho
  obtain⟨v',w5,h1,h2,h3⟩:=run_copy wa W2.heap.size T1 x.an x.cn N D.names _ (HLR.out.below hb) ho hb.size (by rw [HNN.out];omega) HNN.out
  obtain⟨a9,c9,hv,-⟩:=owns_view h2
  subst hv
  refine⟨a9,c9,w5,h1,h2,hb.grown h3 hb.size (fun j hj=>?_),fun b hbg hbl=>h3.block b hbl (fun e=>?_)⟩
  ·have h4:some g=some j:=hj
   injection h4 with h4
   omega
  ·have h4:some g=some b:=e.symm
   injection h4 with h4
   omega
 clear HX1 HLR hp hpp hnum2 hi0 hz0 hz1 hz2 HR HX hlt HV hnum
 generalize hF:QT.Fork Tryz.prog .any _ _ _ 16 _=F
 have hEnd:∀ (listed:Array Bool) (v17:Value) (a9:Option Addr) (c9 b2:Nat) (w3:World),Below W2.heap.size W2 w3->w3.ownsRow W2.heap.size 130 2 (.slice a9 N c9) N (resC D.names)->w3.heap[b2]?=some (.cells #[.string P,.int .i64 ((n:Int)+1)] 130 (0,0))->listed=#[true,true,true,true,true,true,true,true,true,true,true,true,true,true,true,false,false]->F 1 listed ⟨#[.pointer (some ⟨Q,0,none⟩),.string P,.agg #[.int .i64 i.kind,.int .i64 i.mode,.int .i64 i.time,.string V,.bool i.dirty],undef,undef,.pointer (some ⟨W.heap.size,0,none⟩),.pointer (some ⟨Q,0,none⟩),.pointer (some ⟨Q,0,none⟩),.pointer (some ⟨Q,0,none⟩),.pointer (some ⟨Q,3,none⟩),.slice ai n ci,.agg #[.int .i64 i.kind,.int .i64 i.mode,.int .i64 i.time,.string V,.bool i.dirty],.slice (some ⟨W1.heap.size,0,none⟩) 1 1,.slice a8 (n+1) c8,.pointer (some ⟨Q,0,none⟩),.pointer (some ⟨Q,3,none⟩),.pointer (some ⟨Q,0,none⟩),v17,.pointer (some ⟨Q,0,none⟩),.pointer (some ⟨Q,0,none⟩),.pointer (some ⟨Q,0,none⟩),.slice x.an N x.cn,.slice a9 N c9,.string P,.pointer (some ⟨Q,0,none⟩),.pointer (some ⟨Q,0,none⟩),.pointer (some ⟨Q,3,none⟩),.slice a8 (n+1) c8,.int .i64 ((n:Int)+1),.agg #[.string P,.int .i64 ((n:Int)+1)],.slice (some ⟨b2,0,none⟩) 1 1,undef,undef],[]⟩ w3:=by
  intro listed v17 a9 c9 b2 w3 hb hown hrow hls
  subst hF
  subst hls
  refine QT.fork_one 15 _ (by rfl) (by kernel_rfl) ?_
  intro K' hK
  obtain⟨v',w4,hrun,hown4,hgrow4,-⟩:=run_append_own (P:=Tryz.prog) w3 W2.heap.size 53 53 130 i1 _ 2 24 Tryz.underlying53 hi1 hy0 hy1 hy2 rfl (by decide) (.slice a9 N c9) N (resC D.names) hown ⟨b2,0,none⟩ 1 1 (reC (en p ((n+1:Nat):Int))) rfl (fun j u hu=>by
   have e1:(⟨b2,0,none⟩:Addr).add j=⟨b2,j,none⟩:=by simp [Addr.add];omega
   have e2:(#[.string P,.int .i64 ((n:Int)+1)]:Array Value)=(reC (en p ((n+1:Nat):Int))).toArray:=by
    unfold reC
    rw [show (en p ((n+1:Nat):Int)).path=p from rfl,show (en p ((n+1:Nat):Int)).kind=(n:Int)+1 from hcast,hP]
   rw [e1,cell_of_row _ _ j _ _ _ hrow,← hu,e2]
   simp) (re_one _) (by unfold maxLen;omega) (by omega) hb.size
  obtain⟨a10,c10,hv10,-⟩:=owns_view hown4
  subst hv10
  have hb4:Below W2.heap.size W2 w4:=hb.grown hgrow4 hb.size (fun j hj=>(hown.lt j hj).1)
  refine step_app_eq rfl (.tmp 22) (.tmp 30) 53 53 rfl (.slice a9 N c9) (.slice (some ⟨b2,0,none⟩) 1 1) rfl rfl hrun ?_
  refine hK.out _ _ (hS _ hb4) ?_
  clear hK K' hrun hgrow4 hown hrow hb
  refine QT.fork_nil (by kernel_rfl) ?_
  have HC:=Lib.hid (hChg w4 a10 c10 hb4 hown4)
  have HB4:=Lib.hid hb4
  clear hown4 hb4 hS hChg hCopy
  try simp only [Act.put,List.setIfInBounds_toArray,List.set_cons_zero,List.set_cons_succ,List.drop_succ_cons,List.drop_zero]
  repeat (first|(go_at_call 138;refine HC.out.mono ?_;rintro r w6 ⟨rfl,haft⟩;simp only [];have HA:=Lib.hid haft;clear haft)|go_skip|go_guarded|go_step|go_upon)
  refine NoPanic.normal ?_
  repeat (first|go_skip|go_guarded|go_step|go_upon)
  go_end0
  exact⟨rfl,RAft.chain HS1.out (HO2.out.thenBelow HB4.out) HA.out⟩
 subst hF
 have hb3:Below W2.heap.size W2 W2.drew:=(Below.refl _ _).drew
 generalize W2.drew=W3 at hb3 ⊢
 have hEmp:∀ wa:World,Below W2.heap.size W2 wa->(wa.alloc (.cells #[] 130)).ownsRow W2.heap.size 130 2 (.slice (some ⟨wa.heap.size,0,none⟩) 0 0) 0 []:=fun wa hb=>World.ownsRow_made (base:=W2.heap.size) (e:=130) (size:=2) wa #[] 0 hb.size (Nat.zero_le _) rfl
 refine QT.fork_two 1 14 _ _ (by rfl) (by rfl) (by kernel_rfl) ?_ ?_
 ·intro K' hK
  rw [if_pos (by rfl)]
  go_simp
  have hbA:=hb3.alloc hb3.size (.cells #[] 130)
  refine hK.out _ _ (hS _ hbA) ?_
  clear hK K'
  try simp only [Act.put,List.setIfInBounds_toArray,List.set_cons_zero,List.set_cons_succ]
  obtain⟨a9,c9,w5,hrun,hown5,hb5,hk5⟩:=hCopy _ W3.heap.size hbA hb3.size (hEmp W3 hb3)
  refine QT.fork_two 6 14 _ _ (by rfl) (by rfl) (by kernel_rfl) ?_ ?_
  ·intro K' hK
   refine step_app_eq rfl (.tmp 17) (.tmp 21) 53 53 rfl (.slice (some ⟨W3.heap.size,0,none⟩) 0 0) (.slice x.an N x.cn) rfl rfl hrun ?_
   refine hK.out _ _ (hS _ hb5) ?_
   clear hK K'
   try simp only [Act.put,List.setIfInBounds_toArray,List.set_cons_zero,List.set_cons_succ]
   refine QT.fork_one 14 _ (by rfl) (by kernel_rfl) ?_
   intro K' hK
   rw [if_pos (by rfl)]
   go_simp
   have hb6:=hb5.alloc hb5.size (.cells #[.string P,.int .i64 ((n:Int)+1)] 130)
   refine hK.out _ _ (hS _ hb6) ?_
   clear hK K'
   try simp only [Act.put,List.setIfInBounds_toArray,List.set_cons_zero,List.set_cons_succ]
   exact hEnd _ _ a9 c9 _ _ hb6 (hown5.alloc _) (heap_alloc_new w5 _) (by kernel_rfl)
  ·intro K' hK
   clear hrun hown5 hb5 hk5
   rw [if_pos (by rfl)]
   go_simp
   have hbB:=hbA.alloc hbA.size (.cells #[.string P,.int .i64 ((n:Int)+1)] 130)
   refine hK.out _ _ (hS _ hbB) ?_
   clear hK K'
   try simp only [Act.put,List.setIfInBounds_toArray,List.set_cons_zero,List.set_cons_succ]
   have hrB:=heap_alloc_new (W3.alloc (.cells #[] 130)) (.cells #[.string P,.int .i64 ((n:Int)+1)] 130)
   obtain⟨a9,c9,w5,hrun,hown5,hb5,hk5⟩:=hCopy _ W3.heap.size hbB hb3.size ((hEmp W3 hb3).alloc _)
   have hrC:=(hk5 _ (by simp) (by simp)).trans hrB
   rw [World.size_alloc] at hrC
   refine QT.fork_one 6 _ (by rfl) (by kernel_rfl) ?_
   intro K' hK
   refine step_app_eq rfl (.tmp 17) (.tmp 21) 53 53 rfl (.slice (some ⟨W3.heap.size,0,none⟩) 0 0) (.slice x.an N x.cn) rfl rfl hrun ?_
   refine hK.out _ _ (hS _ hb5) ?_
   clear hK K'
   try simp only [Act.put,List.setIfInBounds_toArray,List.set_cons_zero,List.set_cons_succ]
   exact hEnd _ _ a9 c9 _ _ hb5 hown5 hrC (by kernel_rfl)
 ·intro K' hK
  rw [if_pos (by rfl)]
  go_simp
  have hbA:=hb3.alloc hb3.size (.cells #[.string P,.int .i64 ((n:Int)+1)] 130)
  have hrA:=heap_alloc_new W3 (.cells #[.string P,.int .i64 ((n:Int)+1)] 130)
  refine hK.out _ _ (hS _ hbA) ?_
  clear hK K'
  try simp only [Act.put,List.setIfInBounds_toArray,List.set_cons_zero,List.set_cons_succ]
  refine QT.fork_one 1 _ (by rfl) (by kernel_rfl) ?_
  intro K' hK
  rw [if_pos (by rfl)]
  go_simp
  have hbB:=hbA.alloc hbA.size (.cells #[] 130)
  have hrB:=old_row (o:=.cells #[] 130) hrA
  have hEB:=hEmp _ hbA
  rw [World.size_alloc] at hEB
  refine hK.out _ _ (hS _ hbB) ?_
  clear hK K'
  try simp only [Act.put,List.setIfInBounds_toArray,List.set_cons_zero,List.set_cons_succ]
  obtain⟨a9,c9,w5,hrun,hown5,hb5,hk5⟩:=hCopy _ _ hbB (by have:=hb3.size;omega) hEB
  have hrC:=(hk5 _ (by simp) (by simp;omega)).trans hrB
  refine QT.fork_one 6 _ (by rfl) (by kernel_rfl) ?_
  intro K' hK
  refine step_app_eq rfl (.tmp 17) (.tmp 21) 53 53 rfl (.slice (some ⟨W3.heap.size+1,0,none⟩) 0 0) (.slice x.an N x.cn) rfl rfl hrun ?_
  refine hK.out _ _ (hS _ hb5) ?_
  clear hK K'
  try simp only [Act.put,List.setIfInBounds_toArray,List.set_cons_zero,List.set_cons_succ]
  exact hEnd _ _ a9 c9 _ _ hb5 hown5 hrC (by kernel_rfl)
end RK
end Go.Proofs.YtmohjalanhnhbaaGreatDoor