import Derived.Test.YtmohjalanhnhbaaGreatDoorRkStep
set_option linter.all false
set_option maxRecDepth 100000
set_option maxHeartbeats 25600000
namespace Go.Proofs.YtmohjalanhnhbaaGreatDoor
open Go.RowKit Go.Lib Go.BigFrame
namespace RK
open OM TP TM DP DM FP DG TG TR
theorem knew_no (W:World) (ao:Option Addr) (cap:Nat) (t:List Nd) (hl:LayN W ao t) (hs:Small t) (hmx:t.length<=maxLen) (ht:treeB t=false) :
  Calls Tryz.prog 11 #[.slice ao t.length cap] W fun r W'=>r=.returned (.tuple #[.pointer none,.int .i64 60])/\Below W.heap.size W W':=by
 have CK:=Lib.hid (rcheck_any ao cap t W hl hs hmx)
 rw [show checkE t=60 by unfold checkE;rw [ht];rfl] at CK
 obtain⟨n,hn⟩:∃ n,t.length=n:=⟨_,rfl⟩
 rw [hn] at CK ⊢
 clear hl hs hmx ht hn
 go_enter Tryz.func11,Tryz.ntmps11
 repeat (first|(go_at_call 24;refine CK.out.mono ?_;rintro r w2 ⟨rfl,hb2⟩;simp only [];have B2:=Lib.hid hb2;clear hb2)|go_skip|go_guarded|go_step|go_upon)
 go_ret2
 exact⟨rfl,B2.out⟩
structure NewAt (W:World) (Q:Nat) (t:List Nd) (k:Nat) (vn vi:Value) (wr:World):Prop where
 row:wr.heap[Q]?=some (.cells #[vn,.slice none 0 0,.slice none 0 0,vi,.bool false,.int .i64 0,.int .i64 0,.slice none 0 0,.slice none 0 0,.slice none 0 0] 57 (0,0))
 names:wr.ownsRow W.heap.size 130 2 vn k (resC (freshes emptyD (t.take k)))
 inos:wr.ownsRow W.heap.size 128 5 vi k (risC ((t.take k).map (freshI emptyD)))
 bel:Below W.heap.size W wr
theorem num_newD {t:List Nd} (h:t.length<=1000):Num 0 (newD t):=num_new h
theorem NewAt.done {W wr:World} {Q:Nat} {t:List Nd} {vn vi:Value} {n:Nat} (h:NewAt W Q t n vn vi wr) (hn:t.length=n) (ht:Tree t) (hQ:W.heap.size<=Q):∃ T,RS W (wr.setCell ⟨Q,1,none⟩ vn) T Q 0 (newD t):=by
 subst hn
 have hrow:=row_set (j:=1) h.row vn
 have hN:wr.ownsRow W.heap.size 130 2 vn (newD t).names.length (resC (newD t).names):=by
  have h1:=h.names
  rw [List.take_length] at h1
  have h2:(newD t).names.length=t.length:=by show (freshes emptyD t).length=_;exact freshes_len _ _
  rw [h2]
  exact h1
 have hI:wr.ownsRow W.heap.size 128 5 vi (newD t).inos.length (risC (newD t).inos):=by
  have h1:=h.inos
  rw [List.take_length] at h1
  have h2:(newD t).inos.length=t.length:=by show (t.map _).length=_;rw [List.length_map]
  rw [h2]
  exact h1
 have hQt:IsT wr Q 57:=⟨_,_,h.row⟩
 have nQ:∀ g,vn.ownBlock=some g->g≠Q:=fun g hg=>(own_type hN g hg).ne hQt (by decide)
 have iQ:∀ g,vi.ownBlock=some g->g≠Q:=fun g hg=>(own_type hI g hg).ne hQt (by decide)
 have hN2:(wr.setCell ⟨Q,1,none⟩ vn).ownsRow W.heap.size 130 2 vn (newD t).names.length (resC (newD t).names):=own_same hN fun g hg=>set_other wr Q 1 g vn (nQ g hg)
 have hI2:(wr.setCell ⟨Q,1,none⟩ vn).ownsRow W.heap.size 128 5 vi (newD t).inos.length (risC (newD t).inos):=own_same hI fun g hg=>set_other wr Q 1 g vn (iQ g hg)
 obtain⟨ao,c,hv,hL⟩:=layR_own (T:=fun g=>vn.ownBlock=some g∨vi.ownBlock=some g) hN2 (fun g hg=>.inl hg)
 refine⟨fun g=>vn.ownBlock=some g∨vi.ownBlock=some g,⟨ao,c,ao,c,.slice none 0 0,[],vi,.slice none 0 0,none,0,none,0,[]⟩,?_,hL,hL,World.ownsRow_nil _ _ _ _,rfl,(fun g hg=>by cases hg),(fun j a l h1 h2=>by cases h1),own_zero hI2,(fun g hg=>.inr hg),World.ownsRow_nil _ _ _ _,(fun g hg=>by cases hg),⟨(fun ad h1=>by cases h1),(fun ad h1=>by cases h1),(fun _=>rfl),Nat.zero_le _⟩,⟨(fun h1=>absurd h1 (by show ¬ 0<0;omega)),rfl,(fun j e v h1=>by cases h1),(fun _=>rfl),Nat.zero_le _⟩,(fun e he=>by cases he),fun k hk=>?_,hQ,fun k hk=>?_,?_,h.bel.setCell (p:=⟨Q,1,none⟩) hQ vn,num_newD ht.len⟩
 ·rw [hrow]
  unfold rdC
  rw [hv]
  rfl
 ·rcases hk with hk|hk
  ·exact (hN.lt k hk).1
  ·exact (hI.lt k hk).1
 ·rw [set_size]
  rcases hk with hk|hk
  ·exact (hN.lt k hk).2
  ·exact (hI.lt k hk).2
 ·rintro (hk|hk)
  ·exact nQ Q hk rfl
  ·exact iQ Q hk rfl
theorem knew_any (W:World) (ao:Option Addr) (cap:Nat) (t:List Nd) (hl:LayN W ao t) (ht:Tree t) :
  Calls Tryz.prog 11 #[.slice ao t.length cap] W fun r W'=>∃ T Q,r=.returned (.tuple #[.pointer (some ⟨Q,0,none⟩),.int .i64 0])/\RS W W' T Q 0 (newD t):=by
 obtain⟨i0,hi0,hz0,hz1,hz2⟩:=info_parts infoRI
 obtain⟨i1,hi1,hy0,hy1,hy2⟩:=info_parts infoRE
 have CK:=Lib.hid (rcheck_any ao cap t W hl (fun x hx=>⟨by have:=((path_iff x.path).1 (ht.path x hx)).1;omega,by have:=right_data (ht.right x hx);omega⟩) (by have:=ht.len;unfold maxLen;omega))
 rw [show checkE t=0 by unfold checkE;rw [(tree_iff t).2 ht];rfl,show ((0:Nat):Int)=0 from rfl] at CK
 obtain⟨n,hn⟩:∃ n,t.length=n:=⟨_,rfl⟩
 have hn1:n<=1000:=by have:=ht.len;omega
 rw [hn] at CK ⊢
 have HN:=Lib.hid hn
 have HT:=Lib.hid ht
 have HLN:=Lib.hid hl
 clear hl ht hn
 go_enter Tryz.func11,Tryz.ntmps11
 repeat (first|(go_at_call 24;refine CK.out.mono ?_;rintro r w2 ⟨rfl,hb2⟩;simp only [];have B2:=Lib.hid hb2;clear hb2)|go_skip|go_guarded|go_step|go_upon)
 have hz2s:=B2.out.size
 have R0:Hid (NewAt W w2.heap.size t 0 (.slice none 0 0) (.slice none 0 0) (w2.alloc (.cells #[.slice none 0 0,.slice none 0 0,.slice none 0 0,.slice none 0 0,.bool false,.int .i64 0,.int .i64 0,.slice none 0 0,.slice none 0 0,.slice none 0 0] 57))):=Lib.hid ⟨heap_alloc_new w2 _,World.ownsRow_nil _ _ _ _,World.ownsRow_nil _ _ _ _,B2.out.alloc hz2s _⟩
 obtain⟨Q,hQ⟩:∃ Q,w2.heap.size=Q:=⟨_,rfl⟩
 rw [hQ] at R0 hz2s
 try rw [hQ]
 clear hQ
 have HQs:=Lib.hid hz2s
 go_loopw [5] (fun s5 wr=>∃ (k:Nat) (vn vi:Value),s5=.int .i64 k/\k<=n/\NewAt W Q t k vn vi wr) (fun s5 _=>n-(Go.RowKit.intOf s5).toNat)
 case atStart=>exact⟨0,_,_,rfl,Nat.zero_le _,R0.out⟩
 case round =>
  obtain⟨k,vn,vi,rfl,hk,hat⟩:=hrel
  have HAt:=Lib.hid hat
  obtain⟨an,cn,hvn,-⟩:=owns_view hat.names
  obtain⟨ai,ci,hvi,-⟩:=owns_view hat.inos
  subst hvn hvi
  have hbW:=hat.bel.size
  obtain⟨c0,c1,-,c3,-,-,-,-,-,-,cf⟩:=row10 hat.row
  have hQr:=(Array.getElem?_eq_some_iff.1 hat.row).1
  by_cases hlt:k<n
  ·have hkz:(k:Int)<n:=by omega
   obtain⟨y,hy⟩:∃ y,t[k]?=some y:=⟨_,List.getElem?_eq_getElem (by rw [HN.out];exact hlt)⟩
   obtain⟨g,o,rfl,hg,hc⟩:=HLN.out (by rw [HN.out];omega)
   obtain⟨d0,d1,d2,d3⟩:=hc k y hy
   obtain⟨Y,hY,-⟩:=txt_of y.path
   obtain⟨Zs,hZ,-⟩:=txt_of y.data
   obtain⟨ky,hky⟩:∃ z,y.kind=z:=⟨_,rfl⟩
   obtain⟨my,hmy⟩:∃ z,y.mode=z:=⟨_,rfl⟩
   rw [hY] at d0
   rw [hky] at d1
   rw [hZ] at d2
   rw [hmy] at d3
   have e0:=(hat.bel.cell (p:=⟨g,o+k*4,none⟩) hg).trans d0
   have e1:=(hat.bel.cell (p:=⟨g,o+k*4+1,none⟩) hg).trans d1
   have e2:=(hat.bel.cell (p:=⟨g,o+k*4+2,none⟩) hg).trans d2
   have e3:=(hat.bel.cell (p:=⟨g,o+k*4+3,none⟩) hg).trans d3
   have E0:=Lib.hid e0
   have htk:t.take (k+1)=t.take k++[y]:=by rw [List.take_add_one,hy];rfl
   have HTk:=Lib.hid htk
   obtain⟨ii,hii⟩:∃ i,freshI emptyD y=i:=⟨_,rfl⟩
   have HII:=Lib.hid hii
   have hri:(#[.int .i64 ky,.int .i64 my,.int .i64 0,.string Zs,.bool false]:Array Value)=(riC ii).toArray:=by
    rw [<- hii,← hky,← hmy,← hZ]
    rfl
   have HRi:=Lib.hid hri
   have HFe:Hid (freshes emptyD (t.take (k+1))=freshes emptyD (t.take k)++[en y.path ((k+1:Nat):Int)]):=Lib.hid (by
    rw [htk,freshes_snoc]
    congr 2
    unfold freshE
    rw [freshAll_len,List.length_take,HN.out]
    show en y.path ((0+min k n+1:Nat):Int)=_
    rw [Nat.min_eq_left (by omega),Nat.zero_add])
   have HYe:=Lib.hid hY
   have hgW:g<wr.heap.size:=Nat.lt_of_lt_of_le hg hbW
   have hgQ:g≠Q:=by have:=HQs.out;omega
   have HG:=Lib.hid hg
   clear hc d0 d1 d2 d3 hY hZ hky hmy hii hri htk hy hlt hat
   repeat (first|go_skip|go_guarded|go_step|go_upon)
   refine wp_region_noPanic ?_
   with_reducible refine QT.region_mix (S:=fun w'=>w'.cell? ⟨Q,3,none⟩=some (.slice ai k ci)/\w'.cell? ⟨g,o+k*4+1,none⟩=some (.int .i64 ky)/\w'.cell? ⟨g,o+k*4+2,none⟩=some (.string Zs)/\w'.cell? ⟨g,o+k*4+3,none⟩=some (.int .i64 my)) [(true,0),(true,1),(true,2),(true,3),(true,4),(true,5),(true,6),(true,7),(true,8),(true,9),(true,10),(true,11),(true,12),(true,13),(true,14),(true,15),(true,16),(true,17),(true,18),(true,19),(true,20),(false,21),(false,22)] 23 (by kernel_rfl) (by kernel_rfl) ?_ ?_ ?_
   ·exact fun _ _ _ _ _ h=>h
   ·exact⟨c3,e1,e2,e3⟩
   intro _
   simp only [QT.pickM,List.filterMap_cons,List.filterMap_nil,List.getElem?_cons_succ,List.getElem?_cons_zero,Option.map_some,List.drop_succ_cons,List.drop_zero]
   iterate 21 (refine QT.wpMix_take _ (by rfl) (by intro w' hSw;obtain⟨y0,y1,y2,y3⟩:=hSw;go_simp;first|done|rfl) ?_;try simp only [Act.put,List.setIfInBounds_toArray,List.set_cons_zero,List.set_cons_succ])
   intro K' hK
   rw [if_pos (by rfl)]
   go_simp
   have bA:Below wr.heap.size wr (wr.alloc (.cells #[.int .i64 ky,.int .i64 my,.int .i64 0,.string Zs,.bool false] 128)).drew:=((Below.refl _ _).alloc (Nat.le_refl _) _).drew
   have rA:(wr.alloc (.cells #[.int .i64 ky,.int .i64 my,.int .i64 0,.string Zs,.bool false] 128)).drew.heap[wr.heap.size]?=some (.cells #[.int .i64 ky,.int .i64 my,.int .i64 0,.string Zs,.bool false] 128 (0,0)):=heap_alloc_new wr _
   refine hK.out _ _ ⟨(bA.cell (p:=⟨Q,3,none⟩) hQr).trans c3,(bA.cell (p:=⟨g,o+k*4+1,none⟩) hgW).trans e1,(bA.cell (p:=⟨g,o+k*4+2,none⟩) hgW).trans e2,(bA.cell (p:=⟨g,o+k*4+3,none⟩) hgW).trans e3⟩ ?_
   clear hK K'
   try simp only [Act.put,List.setIfInBounds_toArray,List.set_cons_zero,List.set_cons_succ]
   have BA:=Lib.hid bA
   have RA:=Lib.hid rA
   clear bA rA
   generalize (wr.alloc (.cells #[.int .i64 ky,.int .i64 my,.int .i64 0,.string Zs,.bool false] 128)).drew=WA at BA RA ⊢
   have hAs:=BA.out.size
   obtain⟨v',w',hrun,hown',hgrow',-,hblk'⟩:=run_append_own_at (P:=Tryz.prog) WA W.heap.size 55 55 128 i0 _ 5 48 Tryz.underlying55 hi0 hz0 hz1 hz2 rfl (by decide) (.slice ai k ci) k (risC ((t.take k).map (freshI emptyD))) (owns_below HAt.out.inos BA.out) ⟨wr.heap.size,0,none⟩ 1 1 (riC ii) rfl (fun j u hu=>by
    have e1:(⟨wr.heap.size,0,none⟩:Addr).add j=⟨wr.heap.size,j,none⟩:=by simp [Addr.add];omega
    rw [e1,cell_of_row _ _ j _ _ _ RA.out,← hu,HRi.out]
    simp) (ri_one ii) (by unfold maxLen;omega) (by omega) (by omega)
   intro K' hK
   refine step_app_eq rfl (.tmp 21) (.tmp 38) 55 55 rfl (.slice ai k ci) (.slice (some ⟨wr.heap.size,0,none⟩) 1 1) rfl rfl hrun ?_
   have hnQ:(Value.slice ai k ci).ownBlock≠some Q:=fun e=>(own_type HAt.out.inos Q e).ne ⟨_,_,HAt.out.row⟩ (by decide) rfl
   have hng:(Value.slice ai k ci).ownBlock≠some g:=fun e=>by have h1:=(HAt.out.inos.lt g e).1;have:=HG.out;omega
   have keep:∀ (b j:Nat) (u:Value),b<wr.heap.size->(Value.slice ai k ci).ownBlock≠some b->wr.cell? ⟨b,j,none⟩=some u->w'.cell? ⟨b,j,none⟩=some u:=fun b j u hb hn hc=>(World.cell?_of_block (a:=⟨b,j,none⟩) ((hgrow'.block b (by omega) (fun e=>hn e.symm)).trans (BA.out.block b hb))).trans hc
   refine hK.out _ _ ⟨keep _ _ _ hQr hnQ c3,keep _ _ _ hgW hng e1,keep _ _ _ hgW hng e2,keep _ _ _ hgW hng e3⟩ ?_
   clear hK K'
   refine QT.wpMix_nil ?_
   try simp only [Act.put,List.setIfInBounds_toArray,List.set_cons_zero,List.set_cons_succ]
   obtain⟨a8,c8,hv8,-⟩:=owns_view hown'
   subst hv8
   have rowQ:=(hgrow'.block Q (by omega) (fun e=>hnQ e.symm)).trans ((BA.out.block Q hQr).trans HAt.out.row)
   have HRowQ:=Lib.hid rowQ
   obtain⟨-,-,-,z3,-,-,-,-,-,-,zf⟩:=row10 rowQ
   have hbl:∀ g',(Value.slice a8 (k+1) c8).ownBlock=some g'->g'≠Q:=fun g' hg' e=>by
    rw [e] at hg'
    exact (own_type hown' Q hg').ne ⟨_,_,rowQ⟩ (by decide) rfl
   have e0':=keep _ _ _ hgW hng E0.out
   have HE0:=Lib.hid ((World.cell?_of_block (a:=⟨g,o+k*4,none⟩) (set_other w' Q 3 g (.slice a8 (k+1) c8) hgQ)).trans e0')
   have HRow2:=Lib.hid (row_set (j:=3) rowQ (.slice a8 (k+1) c8))
   have HI2:=Lib.hid (own_same hown' fun g' hg'=>set_other w' Q 3 g' (.slice a8 (k+1) c8) (hbl g' hg'))
   have HN2:Hid ((w'.setCell ⟨Q,3,none⟩ (.slice a8 (k+1) c8)).ownsRow W.heap.size 130 2 (.slice an k cn) k (resC (freshes emptyD (t.take k)))):=Lib.hid (own_same HAt.out.names fun g' hg'=>by
    have h1:=(HAt.out.names.lt g' hg').2
    have h2:(Value.slice ai k ci).ownBlock≠some g':=fun e=>(own_type HAt.out.names g' hg').ne (own_type HAt.out.inos g' e) (by decide) rfl
    have h3:g'≠Q:=(own_type HAt.out.names g' hg').ne ⟨_,_,HAt.out.row⟩ (by decide)
    exact (set_other w' Q 3 g' _ h3).trans ((hgrow'.block g' (by omega) (fun e=>h2 e.symm)).trans (BA.out.block g' h1)))
   have HB2:Hid (Below W.heap.size W (w'.setCell ⟨Q,3,none⟩ (.slice a8 (k+1) c8))):=Lib.hid (((Below.trans HAt.out.bel (BA.out.mono hbW)).grown hgrow' (by omega) (fun j hj=>(HAt.out.inos.lt j hj).1)).setCell (p:=⟨Q,3,none⟩) HQs.out _)
   clear hrun hown' hgrow' hblk' keep rowQ hnQ hng c3 e1 e2 e3 hbl e0' e0 c0 c1 cf
   repeat (first|go_skip|go_guarded|go_step|go_upon)
   refine NoPanic.normal ?_
   have hW2s:(w'.setCell ⟨Q,3,none⟩ (.slice a8 (k+1) c8)).heap.size=w'.heap.size:=set_size _ _ _
   generalize w'.setCell ⟨Q,3,none⟩ (.slice a8 (k+1) c8)=W2 at HE0 HRow2 HI2 HN2 HB2 hW2s ⊢
   clear z3 zf HRowQ RA BA hAs HAt hW2s
   have c0:W2.cell? ⟨Q,0,none⟩=some (.slice an k cn):=by
    rw [cell_of_row W2 Q 0 _ _ _ HRow2.out];rfl
   have e0:=HE0.out
   have hQ2:=(Array.getElem?_eq_some_iff.1 HRow2.out).1
   have hg2:g<W2.heap.size:=Nat.lt_of_lt_of_le HG.out HB2.out.size
   have hb2s:=HB2.out.size
   have hkw:IntKind.i64.wrap ((k:Int)+1)=(k:Int)+1:=by rw [IntKind.wrap_i64];omega
   repeat (first|go_skip|go_guarded|go_step|go_upon)
   refine wp_region_noPanic ?_
   with_reducible refine QT.region_mix (S:=fun w'=>w'.cell? ⟨Q,0,none⟩=some (.slice an k cn)/\w'.cell? ⟨g,o+k*4,none⟩=some (.string Y)) [(true,0),(true,1),(true,2),(true,3),(true,4),(true,5),(true,6),(true,7),(true,8),(true,9),(true,10),(true,11),(true,12),(false,13),(false,14)] 15 (by kernel_rfl) (by kernel_rfl) ?_ ?_ ?_
   ·exact fun _ _ _ _ _ h=>h
   ·exact⟨c0,e0⟩
   intro _
   simp only [QT.pickM,List.filterMap_cons,List.filterMap_nil,List.getElem?_cons_succ,List.getElem?_cons_zero,Option.map_some,List.drop_succ_cons,List.drop_zero]
   iterate 11 (refine QT.wpMix_take _ (by rfl) (by intro w' hSw;obtain⟨y0,y1⟩:=hSw;go_simp;first|done|rfl) ?_;try simp only [Act.put,List.setIfInBounds_toArray,List.set_cons_zero,List.set_cons_succ])
   refine QT.wpMix_take (.int .i64 ((k:Int)+1)) (by rfl) (by intro w' hSw;go_simp;first|done|rfl|(simp [hkw])) ?_
   try simp only [Act.put,List.setIfInBounds_toArray,List.set_cons_zero,List.set_cons_succ]
   refine QT.wpMix_take _ (by rfl) (by intro w' hSw;go_simp;first|done|rfl) ?_
   try simp only [Act.put,List.setIfInBounds_toArray,List.set_cons_zero,List.set_cons_succ]
   intro K' hK
   rw [if_pos (by rfl)]
   go_simp
   have bA:Below W2.heap.size W2 (W2.alloc (.cells #[.string Y,.int .i64 ((k:Int)+1)] 130)).drew:=((Below.refl _ _).alloc (Nat.le_refl _) _).drew
   have rA:(W2.alloc (.cells #[.string Y,.int .i64 ((k:Int)+1)] 130)).drew.heap[W2.heap.size]?=some (.cells #[.string Y,.int .i64 ((k:Int)+1)] 130 (0,0)):=heap_alloc_new W2 _
   refine hK.out _ _ ⟨(bA.cell (p:=⟨Q,0,none⟩) hQ2).trans c0,(bA.cell (p:=⟨g,o+k*4,none⟩) hg2).trans e0⟩ ?_
   clear hK K'
   try simp only [Act.put,List.setIfInBounds_toArray,List.set_cons_zero,List.set_cons_succ]
   have BA:=Lib.hid bA
   have RA:=Lib.hid rA
   clear bA rA
   generalize (W2.alloc (.cells #[.string Y,.int .i64 ((k:Int)+1)] 130)).drew=WA at BA RA ⊢
   have hAs:=BA.out.size
   obtain⟨v',w',hrun,hown',hgrow',-,hblk'⟩:=run_append_own_at (P:=Tryz.prog) WA W.heap.size 53 53 130 i1 _ 2 24 Tryz.underlying53 hi1 hy0 hy1 hy2 rfl (by decide) (.slice an k cn) k (resC (freshes emptyD (t.take k))) (owns_below HN2.out BA.out) ⟨W2.heap.size,0,none⟩ 1 1 (reC (en y.path ((k+1:Nat):Int))) rfl (fun j u hu=>by
    have e1:(⟨W2.heap.size,0,none⟩:Addr).add j=⟨W2.heap.size,j,none⟩:=by simp [Addr.add];omega
    have e2:(#[.string Y,.int .i64 ((k:Int)+1)]:Array Value)=(reC (en y.path ((k+1:Nat):Int))).toArray:=by
     unfold reC
     rw [show (en y.path ((k+1:Nat):Int)).path=y.path from rfl,show (en y.path ((k+1:Nat):Int)).kind=(k:Int)+1 by show ((k+1:Nat):Int)=_;omega,HYe.out]
    rw [e1,cell_of_row _ _ j _ _ _ RA.out,← hu,e2]
    simp) (re_one _) (by unfold maxLen;omega) (by omega) (by omega)
   intro K' hK
   refine step_app_eq rfl (.tmp 46) (.tmp 55) 53 53 rfl (.slice an k cn) (.slice (some ⟨W2.heap.size,0,none⟩) 1 1) rfl rfl hrun ?_
   have hnQ:(Value.slice an k cn).ownBlock≠some Q:=fun e=>(own_type HN2.out Q e).ne ⟨_,_,HRow2.out⟩ (by decide) rfl
   have hng:(Value.slice an k cn).ownBlock≠some g:=fun e=>by have h1:=(HN2.out.lt g e).1;have:=HG.out;omega
   have keep:∀ (b j:Nat) (u:Value),b<W2.heap.size->(Value.slice an k cn).ownBlock≠some b->W2.cell? ⟨b,j,none⟩=some u->w'.cell? ⟨b,j,none⟩=some u:=fun b j u hb hn hc=>(World.cell?_of_block (a:=⟨b,j,none⟩) ((hgrow'.block b (by omega) (fun e=>hn e.symm)).trans (BA.out.block b hb))).trans hc
   refine hK.out _ _ ⟨keep _ _ _ hQ2 hnQ c0,keep _ _ _ hg2 hng e0⟩ ?_
   clear hK K'
   refine QT.wpMix_nil ?_
   try simp only [Act.put,List.setIfInBounds_toArray,List.set_cons_zero,List.set_cons_succ]
   obtain⟨a9,c9,hv9,-⟩:=owns_view hown'
   subst hv9
   have rowQ:=(hgrow'.block Q (by omega) (fun e=>hnQ e.symm)).trans ((BA.out.block Q hQ2).trans HRow2.out)
   have HRowQ:=Lib.hid rowQ
   obtain⟨z0,-,-,-,-,-,-,-,-,-,zf⟩:=row10 rowQ
   have hbl:∀ g',(Value.slice a9 (k+1) c9).ownBlock=some g'->g'≠Q:=fun g' hg' e=>by
    rw [e] at hg'
    exact (own_type hown' Q hg').ne ⟨_,_,rowQ⟩ (by decide) rfl
   have HRow3:=Lib.hid (row_set (j:=0) rowQ (.slice a9 (k+1) c9))
   have HN3:=Lib.hid (own_same hown' fun g' hg'=>set_other w' Q 0 g' (.slice a9 (k+1) c9) (hbl g' hg'))
   have HI3:Hid ((w'.setCell ⟨Q,0,none⟩ (.slice a9 (k+1) c9)).ownsRow W.heap.size 128 5 (.slice a8 (k+1) c8) (k+1) (risC ((t.take k).map (freshI emptyD))++riC ii)):=Lib.hid (own_same HI2.out fun g' hg'=>by
    have h1:=(HI2.out.lt g' hg').2
    have h2:(Value.slice an k cn).ownBlock≠some g':=fun e=>(own_type HI2.out g' hg').ne (own_type HN2.out g' e) (by decide) rfl
    have h3:g'≠Q:=(own_type HI2.out g' hg').ne ⟨_,_,HRow2.out⟩ (by decide)
    exact (set_other w' Q 0 g' _ h3).trans ((hgrow'.block g' (by omega) (fun e=>h2 e.symm)).trans (BA.out.block g' h1)))
   have HB3:Hid (Below W.heap.size W (w'.setCell ⟨Q,0,none⟩ (.slice a9 (k+1) c9))):=Lib.hid (((Below.trans HB2.out (BA.out.mono hb2s)).grown hgrow' (by omega) (fun j hj=>(HN2.out.lt j hj).1)).setCell (p:=⟨Q,0,none⟩) HQs.out _)
   clear hrun hown' hgrow' hblk' keep rowQ hnQ hng hbl e0 c0
   repeat (first|go_skip|go_guarded|go_step|go_upon)
   refine NoPanic.normal ?_
   repeat (first|go_skip|go_guarded|go_step|go_upon)
   have HNext:Hid (NewAt W Q t (k+1) (.slice a9 (k+1) c9) (.slice a8 (k+1) c8) (w'.setCell ⟨Q,0,none⟩ (.slice a9 (k+1) c9))):=Lib.hid ⟨HRow3.out,by rw [HFe.out,res_snoc];exact HN3.out,by rw [HTk.out,List.map_append,List.map_cons,List.map_nil,HII.out,ris_snoc];exact HI3.out,HB3.out⟩
   clear HRow3 HN3 HI3 HB3 zf z0
   go_round
   case rel=>exact⟨k+1,_,_,by go_num,by omega,HNext.out⟩
   case measure=>simp [Go.RowKit.intOf];omega
  ·have hkz:¬ (k:Int)<n:=by omega
   have hkn:k=n:=by omega
   subst hkn
   have HD:=Lib.hid (hat.done HN.out HT.out HQs.out)
   clear hat hlt
   repeat (first|go_skip|go_guarded|go_step|go_upon)
   go_ret2
   obtain⟨T,hT⟩:=HD.out
   exact⟨T,Q,rfl,hT⟩
end RK
end Go.Proofs.YtmohjalanhnhbaaGreatDoor