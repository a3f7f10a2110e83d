import Derived.Test.YtkmcjededpamnaaGreatDoorMg14
import Derived.Test.YtkmcjededpamnaaGreatDoorMg20
import Derived.Test.YtkmcjededpamnaaGreatDoorMg3
import Derived.Test.YtkmcjededpamnaaGreatDoorRkCrash
set_option linter.all false
set_option maxRecDepth 100000
set_option maxHeartbeats 0
namespace Go.Proofs.YtkmcjededpamnaaGreatDoor
open List(length_append getElem?_eq_getElem set_cons_zero set_cons_succ setIfInBounds_toArray mem_of_getElem? drop_succ_cons drop_zero length_singleton getElem?_cons_succ filterMap_cons getElem?_cons_zero filterMap_nil)
section
open Go.RowKit Go.Lib Go.BigFrame
namespace RK
open OM TP TM DP DM FP DG TG TR
def tickR(D:Dk):Dk:={ D with clock:=D.clock+1 }
def editR(D:Dk)(p:List UInt8)(v:List Nd):Dk:={ editD (tickR D) p v with clock:=D.clock }
def freshR(D:Dk)(F:List Nd):List Ino:=F.map (freshI (tickR D))
theorem editR_no{D:Dk}{p:List UInt8}{v:List Nd}(h:(putL (treeD D) p v).2≠0):editR D p v=D:=by
 unfold editR editD;rw[if_neg (show ¬(putL (treeD (tickR D)) p v).2=0 from h)];rfl
theorem editR_yes{D:Dk}(hv:V D){p:List UInt8}{v:List Nd}(h:PutOk (treeD D) p v):editR D p v=chgR (inosR D (D.inos++freshR D (inE (outL (treeD D) p v) p))) (sortK (edK D (outL (treeD D) p v) p (outL (treeD D) p v).length) (outL (treeD D) p v).length):=by
 have h1:putL (treeD (tickR D)) p v=(outL (treeD D) p v,0):=put_of h;unfold editR editD;rw[h1,if_pos rfl,edK_names hv h];rfl
theorem in_all_len(t:List Nd)(p:List UInt8):(inE t p).length<=t.length:=List.length_filter_le _ _
theorem in_take_len(t:List Nd)(p:List UInt8)(k:Nat):(inE (t.take k) p).length<=(inE t p).length:=by
 have h:t=t.take k++t.drop k:=(List.take_append_drop k t).symm
 have h2:inE t p=inE (t.take k) p++inE (t.drop k) p:=by
  unfold inE;rw[<- List.filter_append,List.take_append_drop]
 rw[h2,length_append];omega
structure KeAt(w W:World)(T:Nat->Prop)(Q m:Nat)(D:Dk)(t:List Nd)(p:List UInt8)(k:Nat)(tv s6:Value)(wr:World):Prop where
 disk:∃ T1,RS w wr T1 Q m (inosR D (D.inos++freshR D (inE (t.take k) p)))/\(∀ j,T1 j->T j\/W.heap.size<=j)/\(∀ g,tv.ownBlock=some g->¬ T1 g/\g≠Q)/\(∀ g,s6.ownBlock=some g->¬ T1 g/\g≠Q)/\¬ T1 W.heap.size
 out:Out (fun k=>T k\/k=Q) W wr
 own:wr.ownsRow W.heap.size 130 2 s6 (edK D t p k).length (resC (edK D t p k))
 nodes:wr.ownsRow W.heap.size 45 4 tv t.length (nodesC t)
theorem V.names_small{D:Dk}(h:V D):Small (treeD D):=fun n hn=>by
 have h1:=h.tree.path n hn;have h2:=right_data (h.tree.right n hn);have h3:=((path_iff n.path).1 h1).1;omega
theorem freshR_snoc(D:Dk)(F:List Nd)(y:Nd):freshR D (F++[y])=freshR D F++[freshI (tickR D) y]:=by unfold freshR;rw[List.map_append];rfl
theorem freshR_len(D:Dk)(F:List Nd):(freshR D F).length=F.length:=by unfold freshR;rw[List.length_map]
theorem rwithin_txt(A B:ByteArray)(a b:List UInt8)(ha:A.data.toList=a)(hb:B.data.toList=b)(la:a.length<=1048576)(lb:b.length<=1048576)(W:World):Calls Tryz.prog 100 #[.string A,.string B] W fun r W'=>r=.returned (.bool (NP.withinL a b))/\Below W.heap.size W W':=by
 subst ha hb;exact R1.RO.rwithin_any A B W (by rw[size_eq];exact la) (by rw[size_eq];exact lb)
theorem ke_push{w W w2 Wz:World}{T2:Nat->Prop}{Q m b:Nat}{DF:Dk}{u6:Value}{L:List Nd}{e:Nd}{X:ByteArray}{kd:Int}(h:RS w w2 T2 Q m DF)(ho:w2.ownsRow W.heap.size 130 2 u6 L.length (resC L))(hd:∀ g,u6.ownBlock=some g->¬ T2 g/\g≠Q)(hL:L.length<=1000)(hW:w.heap.size<=W.heap.size)(hW2:W.heap.size<=w2.heap.size)
  (hz:Below w2.heap.size w2 Wz) (av:Wz.heap[b]?=some (.cells #[.string X,.int .i64 kd] 130 (0,0))) (hX:txt e.path=.string X) (hk:e.kind=kd) :
  ∃ v' w8,(Builtin.append_ #[53,53] 53 #[u6,.slice (some ⟨b,0,none⟩) 1 1]).run Tryz.prog Wz=.ok v' w8/\w8.ownsRow W.heap.size 130 2 v' (L++[e]).length (resC (L++[e]))/\RS w w8 T2 Q m DF/\(∀ g,v'.ownBlock=some g->¬ T2 g/\g≠Q)/\Out (fun k=>u6.ownBlock=some k) w2 w8:=by
 obtain⟨i1,dQ,dy,ew,ej⟩:=info_parts infoRE;have bY:=hz.size
 obtain⟨v',w8,ag,aq,bG,-,dl⟩:=run_append_own_at (P:=Tryz.prog) Wz W.heap.size 53 53 130 i1 _ 2 24 Tryz.underlying53 dQ dy ew ej rfl (by decide) u6 L.length (resC L) (owns_below ho hz) ⟨b,0,none⟩ 1 1 (reC e) rfl (fun j u hu=>by
  have e1:(⟨b,0,none⟩:Addr).add j=⟨b,j,none⟩:=by simp[Addr.add];omega
  have e2:(#[.string X,.int .i64 kd]:Array Value)=(reC e).toArray:=by unfold reC;rw[hX,hk]
  rw[e1,cell_of_row _ _ j _ _ _ av,← hu,e2]
  simp) (re_one _) (by unfold maxLen;omega) (by omega) (by omega)
 have ac:Out (fun k=>u6.ownBlock=some k) w2 w8:=((Out.refl _ w2).thenBelow hz).grown bG (fun k hk _=>hk);obtain⟨hq,ab⟩:=h.lts;refine⟨v',w8,ag,?_,h.out ac (fun k hk=>⟨(hd k hk).1,(hd k hk).2,Nat.le_trans hW (ho.lt k hk).1⟩),fun g hg=>?_,ac⟩
 ·rw[res_snoc,length_append,length_singleton];exact aq
 ·rcases dl with h1|h1
  ·exact hd g (by rw[<- h1];exact hg)
  ·rw[hg]at h1;injection h1 with h1;exact⟨fun h3=>by have:=ab g h3;omega,by omega⟩
theorem row3e{W:World}{b:Nat}{a0 a1 a2:Value}{t:TypeId}(h:W.heap[b]?=some (.cells #[a0,a1,a2] t (0,0))):W.cell? ⟨b,1,none⟩=some a1/\W.cell? ⟨b,2,none⟩=some a2 :=
 ⟨by rw[cell_of_row W b 1 _ _ _ h];rfl,by rw[cell_of_row W b 2 _ _ _ h];rfl⟩
theorem kedit_any(w W:World)(T:Nat->Prop)(Q m:Nat)(D:Dk)(at_:Int)(p:List UInt8)(vo:Option Addr)(vc:Nat)(v:List Nd)(h:RS w W T Q m D)(hv:V D)(hl:LayN W vo v)(hsm:Small v)(hvl:v.length<=maxLen)(hvc:v.length<=vc)(hp:p.length<=1048576)(hm:m<=1000)(hnum:Num m (editR D p v)) :
  Calls Tryz.prog 176 #[.pointer (some ⟨Q,0,none⟩),.agg #[.int .i64 at_,txt p,.slice vo v.length vc]] W fun r W'=>r=.returned (.tuple #[])/\RAft w W T Q m (editR D p v) W':=by
 obtain⟨i0,bW,cj,bV,aQ⟩:=info_parts infoRI;obtain⟨i1,dQ,dy,ew,ej⟩:=info_parts infoRE;obtain⟨S0,hS,ey⟩:=txt_of p;have fq:=hid ey;have HR:=hid h;have HV:=hid hv;have bQ:=hid hnum;have eU:=h.lts.1;have dU:=hid h.lts.2;obtain⟨vn,dr⟩:∃ n,v.length=n:=⟨_,rfl⟩;rw[hS,dr];have b1:Below W.heap.size W (W.alloc (.cells #[.int .i64 at_,.string S0,.slice vo vn vc] 86)):=(Below.refl _ _).alloc (Nat.le_refl _) _;have RB:=heap_alloc_new W (.cells #[.int .i64 at_,.string S0,.slice vo vn vc] 86);obtain⟨W1,cv⟩:∃ W1,(W.alloc (.cells #[.int .i64 at_,.string S0,.slice vo vn vc] 86))=W1:=⟨_,rfl⟩;have cw:W.heap.size<W1.heap.size:=by rw[<- cv];simp
 rw[cv]at b1 RB;have B1:=hid b1;have dY:=hid RB;have CT:Hid (∀ V,Below W.heap.size W V->Calls Tryz.prog 23 #[.pointer (some ⟨Q,0,none⟩)] V (TR.AtPost (treeD D) V)):=hid (fun V hV=>ktree_any w V T Q m D (h.below hV) hv.fit)
 have dk:Hid (∀ V a c,Below W.heap.size W V->LayN V a (treeD D)->Calls Tryz.prog 208 #[.slice a (treeD D).length c,.string S0,.slice vo vn vc] V (PutPost (putL (treeD D) p v) V)):=hid (fun V a c hV hla=>by
  have:=rput_any a c (treeD D) p vo vc v V ⟨hla,hl.below hV,hv.names_small,hsm,by have:=hv.tree.len;unfold maxLen;omega,hvl,hvc,hp⟩;rw[hS,dr]at this
  exact this)
 clear h hv hnum hl hsm hvl hvc dr hS ey b1 RB;go_enter Tryz.func176,Tryz.ntmps176;repeat (first|go_skip|go_guarded|go_step|go_upon)
 try rw[cv]
 clear cv;obtain⟨q1,q2⟩:=row3e dY.out;refine wp_region_noPanic ?_;with_reducible refine QT.region_mix (S:=fun w'=>w'.cell? ⟨W.heap.size,1,none⟩=some (.string S0)/\w'.cell? ⟨W.heap.size,2,none⟩=some (.slice vo vn vc)) [(true,0),(true,2),(true,3),(true,4),(true,5),(false,1),(false,6),(true,7),(true,8),(true,9),(true,10)] 11 (by kernel_rfl) (by kernel_rfl) ?_ ?_ ?_
 ·exact fun _ _ _ _ _ h=>h
 ·exact⟨q1,q2⟩
 intro _;simp only[QT.pickM,filterMap_cons,filterMap_nil,getElem?_cons_succ,getElem?_cons_zero,Option.map_some,drop_succ_cons,drop_zero];iterate 5 (refine QT.wpMix_take _ (by rfl) (by intro w' ao;obtain⟨y0,y1⟩:=ao;go_simp;first|done|rfl) ?_;try simp only[Act.put,setIfInBounds_toArray,set_cons_zero,set_cons_succ])
 intro K' hK;rw[if_pos (by rfl)];go_simp;have bd:Below W.heap.size W W1.drew:=B1.out.drew;refine(CT.out _ bd).mono ?_;rintro r w2 ⟨u2,rfl,o2,b2⟩;simp only[];have B2:=hid (Below.trans bd (b2.mono bd.size));have cm:=(b2.block W.heap.size (by exact cw)).trans dY.out;have ez:=hid cm;refine hK.out _ _ (row3e cm) ?_;clear hK K';try simp only[Act.put,setIfInBounds_toArray,set_cons_zero,set_cons_succ]
 obtain⟨a2,c2,eX,be⟩:=lay_own o2;subst eX;have CP:=hid (dk.out w2 a2 c2 B2.out be);intro K' hK;rw[if_pos (by rfl)];go_simp;refine CP.out.mono ?_;rintro r w3 ⟨u3,rfl,o3,b3⟩;simp only[];have B3:=hid (Below.trans B2.out (b3.mono B2.out.size));have bZ:=(b3.block W.heap.size (by have:=(Array.getElem?_eq_some_iff.1 ez.out).1;exact this)).trans ez.out;have fm:=hid bZ;refine hK.out _ _ (row3e bZ) ?_;clear hK K';try simp only[Act.put,setIfInBounds_toArray,set_cons_zero,set_cons_succ]
 iterate 4 (refine QT.wpMix_take _ (by rfl) (by intro w' ao;obtain⟨y0,y1⟩:=ao;go_simp;first|done|rfl) ?_;try simp only[Act.put,setIfInBounds_toArray,set_cons_zero,set_cons_succ])
 refine QT.wpMix_nil ?_;repeat (first|go_skip|go_guarded|go_step|go_upon)
 refine NoPanic.normal ?_;have cZ:=put_cases (treeD D) p v;obtain⟨t,ht⟩:∃ t,(putL (treeD D) p v).1=t:=⟨_,rfl⟩;obtain⟨er,bo⟩:∃ e:Nat,(putL (treeD D) p v).2=e:=⟨_,rfl⟩;rw[ht]at o3;rw[bo];rcases Nat.eq_zero_or_pos er with hz|hz
 ·subst hz;rw[show((0:Nat):Int)=0 from rfl]
  have bg:PutOk (treeD D) p v/\t=outL (treeD D) p v:=by
   rcases cZ with ⟨h1,h2⟩|⟨e,h2⟩
   ·exact⟨h1,by rw[<- ht,h2]⟩
   ·rw[h2]at bo;cases bo
  have cE:=hid bg;have cd:=editR_yes HV.out bg.1;rw[<- bg.2]at cd;have cW:=hid cd;have cr:=out_tree bg.1;rw[<- bg.2]at cr;have cM:=hid cr;obtain⟨n,hn⟩:∃ n,t.length=n:=⟨_,rfl⟩;have fH:n<=1000:=by have:=cr.len;omega
  have HN:=hid hn
  have fb:Hid (KeAt w W T Q m D t p 0 u3 (.slice none 0 0) w3):=hid ⟨⟨T,by
   have h1:=HR.out.below B3.out;have e1:inosR D (D.inos++freshR D (inE (t.take 0) p))=D:=by unfold inosR freshR inE;simp
   rw[e1]
   exact h1,fun _ h=>.inl h,fun g hg=>by
    have h1:=(o3.lt g hg).1;have h2:=B2.out.size
    exact⟨fun h3=>by have:=dU.out g h3;omega,by omega⟩,(fun g hg=>by cases hg),fun h3=>by have:=dU.out _ h3;omega⟩,(Out.of_below B3.out).mono (fun k hk h=>absurd hk (by omega)),World.ownsRow_nil _ _ _ _,owns_base o3 _ B2.out.size⟩
  obtain⟨a3,cN,eh,-⟩:=lay_own o3;rw[hn]at eh;subst eh
  have bM:Hid (∀ j,Num m (inosR D (D.inos++freshR D (inE (t.take j) p)))):=hid (fun j=>by
   obtain⟨xx,cy⟩:=HR.out;have h1:=cy.num;have h2:=bQ.out.inos;rw[cd]at h2
   have h3:(chgR (inosR D (D.inos++freshR D (inE t p))) (sortK (edK D t p t.length) t.length)).inos.length=D.inos.length+(inE t p).length:=by
    show(D.inos++freshR D (inE t p)).length=_;rw[length_append,freshR_len]
   have h4:=in_take_len t p j
   exact⟨h1.clock,h1.trace,h1.later,by show(D.inos++freshR D (inE (t.take j) p)).length<=_;rw[length_append,freshR_len];omega,h1.edits,h1.path,h1.long⟩)
  have dE:Hid (w.heap.size<=W.heap.size):=hid (by obtain⟨xx,cy⟩:=HR.out;exact cy.bel.size);clear cZ ht bo o3 b3 bg cd cr hn o2 b2 be bd cm bZ q1 q2;repeat (first|go_skip|go_guarded|go_step|go_upon)
  go_loopw [6,7] (fun s6 s7 wr=>∃ k:Nat,s7=.int .i64 k/\k<=n/\KeAt w W T Q m D t p k (.slice a3 n cN) s6 wr/\wr.heap[W.heap.size]?=some (.cells #[.int .i64 at_,.string S0,.slice vo vn vc] 86 (0,0))) (fun _ s7 _=>n-(RowKit.intOf s7).toNat)
  case atStart=>exact⟨0,rfl,Nat.zero_le _,fb.out,fm.out⟩
  case round =>
   obtain⟨k,rfl,hk,cO,a6⟩:=hrel;have dK:=hid cO;have bE:=hid a6;by_cases ab:k<n
   ·have cR:(k:Int)<n:=by omega
    obtain⟨y,hy⟩:∃ y,t[k]?=some y:=⟨_,getElem?_eq_getElem (by rw[HN.out];exact ab)⟩;have b7:=mem_of_getElem? hy;have eg:=cM.out.path y b7;obtain⟨⟨T1,⟨x1,aT⟩,aK,cq,aC,aH⟩,ac,aq,az⟩:=cO;have bn:=az;rw[HN.out]at bn;obtain⟨fR,c',e1,b8⟩:=lay_own az;rw[HN.out]at e1;injection e1 with e1 _ e3;subst e1 e3;obtain⟨g,o,rfl,hg,hc⟩:=b8 (by rw[HN.out];omega);obtain⟨d0,d1,d2,d3⟩:=hc k y hy;obtain⟨Y,hY,dS⟩:=txt_of y.path;obtain⟨Zs,hZ,-⟩:=txt_of y.data;obtain⟨ky,dq⟩:∃ z,y.kind=z:=⟨_,rfl⟩;obtain⟨my,dm⟩:∃ z,y.mode=z:=⟨_,rfl⟩;rw[hY]at d0;rw[dq]at d1;rw[hZ]at d2;rw[dm]at d3;have b1:=(row3e a6).1;obtain⟨F,hF⟩:∃ F,inE (t.take k) p=F:=⟨_,rfl⟩;have fN:F.length<=1000:=by rw[<- hF];have h1:=in_all_len (t.take k) p;rw[List.length_take]at h1;omega
    rw[hF]at aT;have dV:=(Array.getElem?_eq_some_iff.1 a6).1;obtain⟨bw,cG⟩:∃ b,NP.withinL y.path p=b:=⟨_,rfl⟩
    have CW:Hid (∀ V,Calls Tryz.prog 100 #[.string Y,.string S0] V fun r W'=>r=.returned (.bool bw)/\Below V.heap.size V W'):=hid (fun V=>by
     rw[<- cG]
     exact rwithin_txt Y S0 y.path p dS fq.out (by have:=((path_iff y.path).1 eg).1;omega) hp V)
    have cu:=hid aT;have aE:=hid aK;have bm:=hid cq;have cb:=hid aC;have aV:=hid aH;have ax:=hid ac;have dh:=hid aq;have dv:=hid bn;have HY:=hid hy;have bv:=hid hY;have eG:=hid hZ;have HF:=hid hF;have bs:=hid cG;have fr:=hid dq;have eS:=hid dm;have D0:=hid d0;have D1:=hid d1;have D2:=hid d2;have D3:=hid d3;have HG:=hid hg;have ek:=hid dV;clear aT aK cq aC aH ac aq az bn b8 hc hY dS hZ dq dm hF cG eg b7 hy ab dK;repeat (first|go_skip|go_guarded|go_step|go_upon)
    refine wp_region_noPanic ?_;with_reducible refine QT.region_mix (S:=fun w'=>w'.cell? ⟨g,o+k*4,none⟩=some (.string Y)/\w'.cell? ⟨W.heap.size,1,none⟩=some (.string S0)) [(true,0),(true,1),(true,2),(true,3),(true,4),(true,5),(true,6)] 7 (by kernel_rfl) (by kernel_rfl) ?_ ?_ ?_
    ·exact fun _ _ _ _ _ h=>h
    ·exact⟨d0,b1⟩
    intro _;simp only[QT.pickM,filterMap_cons,filterMap_nil,getElem?_cons_succ,getElem?_cons_zero,Option.map_some,drop_succ_cons,drop_zero];iterate 7 (refine QT.wpMix_take _ (by rfl) (by intro w' ao;obtain⟨y0,y1⟩:=ao;go_simp;first|done|rfl) ?_;try simp only[Act.put,setIfInBounds_toArray,set_cons_zero,set_cons_succ])
    refine QT.wpMix_nil ?_;clear d0 d1 d2 d3 b1 dV a6 hg;repeat (first|go_skip|go_guarded|go_step|go_upon)
    refine(CW.out _).mono ?_;rintro r w4 ⟨rfl,eu⟩;simp only[];have B4:Hid (Below wr.heap.size wr w4):=hid (((Below.refl _ _).drew).trans eu);clear eu;repeat (first|go_skip|go_guarded|go_step|go_upon)
    refine NoPanic.normal ?_;have X4:=hid (cu.out.below B4.out);have Box4:=hid ((B4.out.block _ ek.out).trans bE.out);have e0:=(B4.out.cell (p:=⟨g,o+k*4,none⟩) HG.out).trans D0.out;have e1:=(B4.out.cell (p:=⟨g,o+k*4+1,none⟩) HG.out).trans D1.out;have e2:=(B4.out.cell (p:=⟨g,o+k*4+2,none⟩) HG.out).trans D2.out;have e3:=(B4.out.cell (p:=⟨g,o+k*4+3,none⟩) HG.out).trans D3.out;have O4:=hid (owns_below dh.out B4.out);have N4:=hid (owns_below dv.out B4.out);have dJ:=B4.out.size;have fP:=ax.out.size;have ak:g<w4.heap.size:=Nat.lt_of_lt_of_le HG.out dJ;have bK:W.heap.size<w4.heap.size:=Nat.lt_of_lt_of_le ek.out dJ;have dd:D.clock<=1000:=by have h1:D.clock<=m:=X4.out.num.clock;omega
    have cY:=edK_len (D:=D) (t:=t) (p:=p) (k:=k) (by rw[HN.out];omega)
    cases bw with
    | true =>
     have cg:Hid (inE (t.take (k+1)) p=F++[y]):=hid (by rw[in_succ_yes HY.out bs.out,HF.out]);have b4:Hid (edE D t p k y=en y.path ((D.inos.length+1+F.length:Nat):Int)):=hid (by unfold edE;rw[if_pos bs.out,HF.out]);obtain⟨ni,bT⟩:∃ n,D.inos.length+F.length=n:=⟨_,rfl⟩;have da:(inosR D (D.inos++freshR D F)).inos.length=ni:=by show(D.inos++freshR D F).length=_;rw[length_append,freshR_len,bT]
     have bD:=X4.out.inos;rw[da]at bD;obtain⟨vi,bS⟩:∃ v,x1.vi=v:=⟨_,rfl⟩;rw[bS]at bD;obtain⟨ai,ci,cJ,-⟩:=owns_view bD;subst cJ;obtain⟨ck,bI⟩:∃ n,D.clock=n:=⟨_,rfl⟩;rw[bI]at dd;have fi:IntKind.i64.wrap ((ck:Int)+1)=((ck:Int)+1):=by rw[IntKind.wrap_i64];omega
     have rQ:w4.heap[Q]?=some (.cells #[.slice x1.an D.names.length x1.cn,.slice x1.as_ D.safe.length x1.cs,x1.vl,.slice ai ni ci,.bool D.off,.int .i64 (D.trace.length:Nat),.int .i64 (ck:Nat),x1.vt,.slice x1.af D.fates.length x1.cf,.slice x1.ae D.edits.length x1.ce] 57 (0,0)):=by
      have h:=X4.out.row;unfold rdC at h;rw[bS]at h;rw[<- bI];exact h
     obtain⟨-,-,-,c3,-,-,c6,-,-,-,-⟩:=row10 rQ;have aU:=(Array.getElem?_eq_some_iff.1 rQ).1;have eo:=hid rQ;have ar:=bM.out (k+1);rw[cg.out]at ar;have bb:=num_inos ar hm;rw[show(inosR D (D.inos++freshR D (F++[y]))).inos.length=ni+1 by show(D.inos++freshR D (F++[y])).length=_;rw[length_append,freshR_len,length_append,← bT];rfl]at bb;have aJ:=hid ar;have dC:=hid bD;have cc:=hid bS;have eV:=hid da;have eC:=hid bT;have f9:=hid bI;have eW:=hid cY;obtain⟨ii,cQ⟩:∃ i,freshI (tickR D) y=i:=⟨_,rfl⟩;have fj:=hid cQ
     have dL:(#[.int .i64 ky,.int .i64 my,.int .i64 ((ck:Int)+1),.string Zs,.bool false]:Array Value)=(riC ii).toArray:=by
      rw[<- cQ,← fr.out,← eS.out,← eG.out,← bI];rfl
     have eP:=hid dL;clear rQ ar bD bS da bT bI cY cQ dL;repeat (first|go_skip|go_guarded|go_step|go_upon)
     refine wp_region_noPanic ?_;with_reducible refine QT.region_mix (S:=fun w'=>w'.cell? ⟨Q,3,none⟩=some (.slice ai ni ci)/\w'.cell? ⟨Q,6,none⟩=some (.int .i64 (ck:Nat))/\w'.cell? ⟨g,o+k*4+1,none⟩=some (.int .i64 ky)/\w'.cell? ⟨g,o+k*4+2,none⟩=some (.string Zs)/\w'.cell? ⟨g,o+k*4+3,none⟩=some (.int .i64 my)) [(true,0),(true,1),(true,2),(true,3),(true,4),(true,5),(true,6),(true,7),(true,8),(true,9),(true,10),(true,11),(true,12),(true,13),(true,14),(true,15),(true,16),(true,17),(true,18),(true,19),(true,20),(true,21),(true,22),(true,23),(true,24),(true,25),(false,26),(false,27)] 28 (by kernel_rfl) (by kernel_rfl) ?_ ?_ ?_
     ·exact fun _ _ _ _ _ h=>h
     ·exact⟨c3,c6,e1,e2,e3⟩
     intro _;simp only[QT.pickM,filterMap_cons,filterMap_nil,getElem?_cons_succ,getElem?_cons_zero,Option.map_some,drop_succ_cons,drop_zero];iterate 24 (refine QT.wpMix_take _ (by rfl) (by intro w' ao;obtain⟨y0,y1,y2,y3,y4⟩:=ao;go_simp;first|done|rfl) ?_;try simp only[Act.put,setIfInBounds_toArray,set_cons_zero,set_cons_succ])
     refine QT.wpMix_take (.int .i64 ((ck:Int)+1)) (by rfl) (by intro w' ao;go_simp;first|done|rfl|(simp[fi])) ?_;try simp only[Act.put,setIfInBounds_toArray,set_cons_zero,set_cons_succ]
     refine QT.wpMix_take _ (by rfl) (by intro w' ao;go_simp;first|done|rfl) ?_;try simp only[Act.put,setIfInBounds_toArray,set_cons_zero,set_cons_succ]
     intro K' hK;rw[if_pos (by rfl)];go_simp;have bA:Below w4.heap.size w4 (w4.alloc (.cells #[.int .i64 ky,.int .i64 my,.int .i64 ((ck:Int)+1),.string Zs,.bool false] 128)).drew:=((Below.refl _ _).alloc (Nat.le_refl _) _).drew;have rA:=heap_alloc_new w4 (.cells #[.int .i64 ky,.int .i64 my,.int .i64 ((ck:Int)+1),.string Zs,.bool false] 128);refine hK.out _ _ ⟨(bA.cell (p:=⟨Q,3,none⟩) aU).trans c3,(bA.cell (p:=⟨Q,6,none⟩) aU).trans c6,(bA.cell (p:=⟨g,o+k*4+1,none⟩) ak).trans e1,(bA.cell (p:=⟨g,o+k*4+2,none⟩) ak).trans e2,(bA.cell (p:=⟨g,o+k*4+3,none⟩) ak).trans e3⟩ ?_;clear hK K';try simp only[Act.put,setIfInBounds_toArray,set_cons_zero,set_cons_succ]
     have dw:(w4.alloc (.cells #[.int .i64 ky,.int .i64 my,.int .i64 ((ck:Int)+1),.string Zs,.bool false] 128)).drew.heap[w4.heap.size]?=some (.cells #[.int .i64 ky,.int .i64 my,.int .i64 ((ck:Int)+1),.string Zs,.bool false] 128 (0,0)):=rA;have BA:=hid bA;have RA:=hid dw;clear bA rA dw;generalize (w4.alloc (.cells #[.int .i64 ky,.int .i64 my,.int .i64 ((ck:Int)+1),.string Zs,.bool false] 128)).drew=WA at BA RA ⊢
     obtain⟨v',w',ag,ay,ah,-,aN⟩:=run_append_own_at (P:=Tryz.prog) WA 0 55 55 128 i0 _ 5 48 Tryz.underlying55 bW cj bV aQ rfl (by decide) (.slice ai ni ci) ni (risC (inosR D (D.inos++freshR D F)).inos) (owns_below dC.out BA.out) ⟨w4.heap.size,0,none⟩ 1 1 (riC ii) rfl (fun j u hu=>by
      have e1:(⟨w4.heap.size,0,none⟩:Addr).add j=⟨w4.heap.size,j,none⟩:=by simp[Addr.add];omega
      rw[e1,cell_of_row _ _ j _ _ _ RA.out,← hu,eP.out]
      simp) (ri_one ii) (by unfold maxLen;omega) bb (Nat.zero_le _)
     intro K' hK;refine step_app_eq rfl (.tmp 38) (.tmp 60) 55 55 rfl (.slice ai ni ci) (.slice (some ⟨w4.heap.size,0,none⟩) 1 1) rfl rfl ag ?_;have b9:(Value.slice ai ni ci).ownBlock≠some Q:=fun e=>X4.out.np (X4.out.iin Q (by rw[cc.out];exact e));have ct:(Value.slice ai ni ci).ownBlock≠some g:=fun e=>(bm.out g rfl).1 (X4.out.iin g (by rw[cc.out];exact e));have eD:=BA.out.size;have dF:Q<WA.heap.size:=by omega
     have eY:g<WA.heap.size:=by omega
     have keep:∀(b j:Nat) (u:Value),b<w4.heap.size->(Value.slice ai ni ci).ownBlock≠some b->w4.cell? ⟨b,j,none⟩=some u->w'.cell? ⟨b,j,none⟩=some u:=fun b j u hb hn hc=>(World.cell?_of_block (a:=⟨b,j,none⟩) ((ah.block b (by omega) (fun e=>hn e.symm)).trans (BA.out.block b hb))).trans hc;refine hK.out _ _ ⟨keep _ _ _ aU b9 c3,keep _ _ _ aU b9 c6,keep _ _ _ ak ct e1,keep _ _ _ ak ct e2,keep _ _ _ ak ct e3⟩ ?_;clear hK K';refine QT.wpMix_nil ?_;try simp only[Act.put,setIfInBounds_toArray,set_cons_zero,set_cons_succ]
     obtain⟨a8,c8,fe,-⟩:=owns_view ay;subst fe;have aS:=(ah.block Q dF (fun e=>b9 e.symm)).trans ((BA.out.block Q aU).trans eo.out);have aO:=hid aS;obtain⟨-,-,-,z3,-,-,-,-,-,-,zf⟩:=row10 aS;have cA:=hid ay;have dT:=hid ah;have cX:=hid aN;have el:=hid b9;clear ag ay ah aN keep aS b9 ct c3 c6 e1 e2 e3;repeat (first|go_skip|go_guarded|go_step|go_upon)
     refine NoPanic.normal ?_
     have b6:∀ g,(Value.slice a8 (ni+1) c8).ownBlock=some g->g≠Q:=by
      intro g hg e;subst e;rcases cX.out with h1|h1
      ·rw[h1]at hg;exact el.out hg
      ·rw[h1]at hg;injection hg with hg;omega
     obtain⟨T2,bU,ei,aL⟩:∃ T',RX w T' (w'.setCell ⟨Q,3,none⟩ (.slice a8 (ni+1) c8)) Q m (inosR D (D.inos++freshR D (F++[y]))) { x1 with vi:=.slice a8 (ni+1) c8 }/\(∀ k,T' k->T1 k\/w4.heap.size<=k)/\Out (fun k=>T1 k\/k=Q) w4 (w'.setCell ⟨Q,3,none⟩ (.slice a8 (ni+1) c8)):=by
      have eI:D.inos++freshR D (F++[y])=(D.inos++freshR D F)++[ii]:=by rw[freshR_snoc,fj.out,List.append_assoc]
      rw[eI];refine X4.out.growInos (I:=(D.inos++freshR D F)++[ii]) (v:=.slice a8 (ni+1) c8) ((((Out.refl _ w4).thenBelow BA.out).grown dT.out (fun k hk _=>.inr (by rw[cc.out];exact hk))).setCell (p:=⟨Q,3,none⟩) (fun _=>.inl rfl) _) ?_ ?_ ?_ ?_
      ·rw[row_set (j:=3) aO.out (.slice a8 (ni+1) c8)];unfold rdC inosR;rw[<- f9.out];rfl
      ·have h1:=own_same cA.out fun g hg=>set_other w' Q 3 g (.slice a8 (ni+1) c8) (b6 g hg);have hl:(D.inos++freshR D F).length=ni:=eV.out;rw[ris_snoc,length_append,hl];exact h1
      ·rcases cX.out with h1|h1
       ·exact .inl (by rw[cc.out];exact h1)
       ·refine .inr ⟨WA.heap.size,h1,BA.out.size,?_⟩;rw[set_size];exact(cA.out.lt _ h1).2
      ·have h1:=aJ.out;rw[eI]at h1;exact h1
     generalize w'.setCell ⟨Q,3,none⟩ (.slice a8 (ni+1) c8)=W2 at bU aL ⊢;clear b6 cA dT cX el aO z3 zf dC eo aJ RA BA bb eD dF eY;have X2:=hid bU;have S2:=hid ei;have U2:=hid aL
     have r2:W2.heap[Q]?=some (.cells #[.slice x1.an D.names.length x1.cn,.slice x1.as_ D.safe.length x1.cs,x1.vl,.slice a8 (ni+1) c8,.bool D.off,.int .i64 (D.trace.length:Nat),.int .i64 (D.clock:Nat),x1.vt,.slice x1.af D.fates.length x1.cf,.slice x1.ae D.edits.length x1.ce] 57 (0,0)):=by
      have h:=bU.row;unfold rdC at h;exact h
     obtain⟨-,-,-,c3,-⟩:=row10 r2;have aQ:=aL.size
     have kg:=aL.block g ak (fun e=>by
      have h1:=bm.out g rfl;rcases e with e|e
      ·exact h1.1 e
      ·exact h1.2 e)
     have d0:W2.cell? ⟨g,o+k*4,none⟩=some (.string Y):=(World.cell?_of_block (a:=⟨g,o+k*4,none⟩) kg).trans ((B4.out.cell (p:=⟨g,o+k*4,none⟩) HG.out).trans D0.out)
     have bH:Hid (W2.heap[W.heap.size]?=some (.cells #[.int .i64 at_,.string S0,.slice vo vn vc] 86 (0,0))):=hid ((aL.block _ bK (fun e=>by
      rcases e with e|e
      ·exact aV.out e
      ·omega)).trans Box4.out)
     have O2:Hid (W2.ownsRow W.heap.size 130 2 u6 (edK D t p k).length (resC (edK D t p k))):=hid (own_same O4.out fun g' hg'=>aL.block g' (O4.out.lt g' hg').2 (fun e=>by
      have h1:=cb.out g' hg';rcases e with e|e
      ·exact h1.1 e
      ·exact h1.2 e))
     have N2:Hid (W2.ownsRow W.heap.size 45 4 (.slice (some ⟨g,o,none⟩) n cN) n (nodesC t)):=hid (own_same N4.out fun g' hg'=>aL.block g' (N4.out.lt g' hg').2 (fun e=>by
      have h1:=bm.out g' hg';rcases e with e|e
      ·exact h1.1 e
      ·exact h1.2 e))
     have fv:=(Array.getElem?_eq_some_iff.1 r2).1;have eM:g<W2.heap.size:=by omega
     clear bU ei aL r2 kg e0;repeat (first|go_skip|go_guarded|go_step|go_upon)
     refine wp_region_noPanic ?_;with_reducible refine QT.region_mix (S:=fun w'=>w'.cell? ⟨Q,3,none⟩=some (.slice a8 (ni+1) c8)/\w'.cell? ⟨g,o+k*4,none⟩=some (.string Y)) [(true,0),(true,1),(true,2),(true,3),(true,4),(true,5),(true,6),(true,7),(true,8),(true,9),(true,10),(true,11),(false,12)] 13 (by kernel_rfl) (by kernel_rfl) ?_ ?_ ?_
     ·exact fun _ _ _ _ _ h=>h
     ·exact⟨c3,d0⟩
     intro _;simp only[QT.pickM,filterMap_cons,filterMap_nil,getElem?_cons_succ,getElem?_cons_zero,Option.map_some,drop_succ_cons,drop_zero];iterate 12 (refine QT.wpMix_take _ (by rfl) (by intro w' ao;obtain⟨y0,y1⟩:=ao;go_simp;first|done|rfl) ?_;try simp only[Act.put,setIfInBounds_toArray,set_cons_zero,set_cons_succ])
     intro K' hK;rw[if_pos (by rfl)];go_simp;have bz:Below W2.heap.size W2 (W2.alloc (.cells #[.string Y,.int .i64 ((ni:Int)+1)] 130)).drew:=((Below.refl _ _).alloc (Nat.le_refl _) _).drew;have rz:(W2.alloc (.cells #[.string Y,.int .i64 ((ni:Int)+1)] 130)).drew.heap[W2.heap.size]?=some (.cells #[.string Y,.int .i64 ((ni:Int)+1)] 130 (0,0)):=heap_alloc_new W2 _;refine hK.out _ _ ⟨(bz.cell (p:=⟨Q,3,none⟩) fv).trans c3,(bz.cell (p:=⟨g,o+k*4,none⟩) eM).trans d0⟩ ?_;clear hK K';refine QT.wpMix_nil ?_;try simp only[Act.put,setIfInBounds_toArray,set_cons_zero,set_cons_succ]
     obtain⟨v9,w9,ag,al,aw,bO,aj⟩:=ke_push (L:=edK D t p k) (e:=edE D t p k y) ⟨_,X2.out⟩ O2.out (fun g' hg'=>⟨fun h=>by
      rcases S2.out g' h with h1|h1
      ·exact(cb.out g' hg').1 h1
      ·have:=(O4.out.lt g' hg').2;omega,(cb.out g' hg').2⟩) (by rw[eW.out];omega) dE.out (by omega) bz rz (by rw[b4.out];exact bv.out) (by rw[b4.out];show((D.inos.length+1+F.length:Nat):Int)=_;have:=eC.out;omega)
     have c7:=hid al;have cS:=hid aw;have cC:=hid bO;have ba:=hid aj;clear al aw bO aj bz rz c3 d0;repeat (first|(at_builtin;refine wpList_app_eq rfl (.tmp 64) (.tmp 76) 53 53 rfl _ _ rfl rfl ag ?_)|go_skip|go_guarded|go_step|go_upon)
     refine NoPanic.normal ?_;repeat (first|go_skip|go_guarded|go_step|go_upon)
     refine⟨⟨k+1,by go_num,by omega,⟨⟨T2,?_,fun j hj=>?_,fun g' hg'=>?_,cC.out,fun h=>?_⟩,?_,?_,?_⟩,?_⟩,by simp[RowKit.intOf];omega⟩
     ·rw[cg.out];exact cS.out
     ·rcases S2.out j hj with h1|h1
      ·exact aE.out j h1
      ·exact .inr (by omega)
     ·refine⟨fun h=>?_,(bm.out g' hg').2⟩;rcases S2.out g' h with h1|h1
      ·exact(bm.out g' hg').1 h1
      ·have:=(N4.out.lt g' hg').2;omega
     ·rcases S2.out _ h with h1|h1
      ·exact aV.out h1
      ·omega
     ·have u1:=ax.out.thenBelow B4.out;refine(u1.then U2.out (fun j hj h=>?_)).then ba.out (fun j hj h=>?_)
      ·rcases h with h|h
       ·rcases aE.out j h with h1|h1
        ·exact .inl h1
        ·omega
       ·exact .inr h
      ·have:=(O2.out.lt j h).1;omega
     ·rw[edK_succ HY.out];exact c7.out
     ·rw[HN.out];exact own_same N2.out fun g' hg'=>ba.out.block g' (N2.out.lt g' hg').2 (fun e=>(own_type N2.out g' hg').ne (own_type O2.out g' e) (by decide) rfl)
     ·exact(ba.out.block _ (by omega) (fun e=>(own_type O2.out _ e).ne ⟨_,_,bH.out⟩ (by decide) rfl)).trans bH.out
    | false =>
     have cg:Hid (inE (t.take (k+1)) p=F):=hid (by rw[in_succ_no HY.out bs.out,HF.out]);have b4:Hid (edE D t p k y=en y.path (inoN D.names y.path)):=hid (by unfold edE;rw[if_neg (by rw[bs.out];exact Bool.false_ne_true)])
     have bF:∃ e∈D.names,e.path=y.path:=by
      have h1:=mem_of_getElem? HY.out;rw[cE.out.2]at h1;rcases (mem_out (treeD D) p v y).1 h1 with ⟨h2,_⟩|⟨mm,fp,h2⟩
      ·obtain⟨e,he,h3⟩:=List.mem_map.1 h2;exact⟨e,he,by rw[<- h3];rfl⟩
      ·exfalso;have h3:=place_within (path_ne cE.out.1.path) (cE.out.1.all mm fp);rw[h2,bs.out]at h3;cases h3
     obtain⟨eK,cx,bB⟩:=bF;have bN:0<D.names.length:=List.length_pos_of_mem cx;obtain⟨g0,o0,dO,eA,_,_,bf⟩:=X4.out.names (show 0<(inosR D (D.inos++freshR D F)).names.length from bN);have bf:∀(j:Nat) (e:Nd),D.names[j]?=some e->w4.cell? ⟨g0,o0+j*2,none⟩=some (txt e.path)/\w4.cell? ⟨g0,o0+j*2+1,none⟩=some (.int .i64 e.kind):=fun j e he=>⟨(bf j e he).p,(bf j e he).i⟩;obtain⟨NN,et⟩:∃ n,D.names.length=n:=⟨_,rfl⟩
     have rQ:w4.heap[Q]?=some (.cells #[.slice (some ⟨g0,o0,none⟩) NN x1.cn,.slice x1.as_ D.safe.length x1.cs,x1.vl,x1.vi,.bool D.off,.int .i64 (D.trace.length:Nat),.int .i64 (D.clock:Nat),x1.vt,.slice x1.af D.fates.length x1.cf,.slice x1.ae D.edits.length x1.ce] 57 (0,0)):=by
      have h:=X4.out.row;unfold rdC at h;rw[dO]at h;rw[<- et];exact h
     obtain⟨c0,-⟩:=row10 rQ;have aU:=(Array.getElem?_eq_some_iff.1 rQ).1;have fU:NN<=1000:=by have:=HV.out.names.len;omega
     have CF:Hid (∀ V,Below w4.heap.size w4 V->Calls Tryz.prog 134 #[.pointer (some ⟨Q,0,none⟩),.string Y] V fun r W'=>∃(z:Nat) (e:Nd),r=.returned (.int .i64 z)/\D.names[z]?=some e/\e.path=y.path/\z<NN/\Below V.heap.size V W'):=hid (fun V hV=>by
      have h:=kfind_any w V T1 Q m (inosR D (D.inos++freshR D F)) y.path ⟨x1,X4.out.below hV⟩ (by show D.names.length<=_;omega);rw[bv.out]at h;refine h.mono ?_;rintro r W' ⟨z,rfl,hs,hb⟩;rcases hs with ⟨kk,nn,rfl,h1,h2,_⟩|⟨_,h1⟩
      ·exact⟨kk,nn,rfl,h1,h2,by have:=(List.getElem?_eq_some_iff.1 h1).1;have h3:kk<D.names.length:=this;omega,hb⟩
      ·exact absurd bB (h1 eK cx))
     have dD:=hid bf;clear rQ cx bB bN dO et;repeat (first|go_skip|go_guarded|go_step|go_upon)
     refine wp_region_noPanic ?_;with_reducible refine QT.region_mix (S:=fun w'=>w'.cell? ⟨Q,0,none⟩=some (.slice (some ⟨g0,o0,none⟩) NN x1.cn)/\w'.cell? ⟨g,o+k*4,none⟩=some (.string Y)/\∀(j:Nat) (e:Nd),D.names[j]?=some e->w'.cell? ⟨g0,o0+j*2,none⟩=some (txt e.path)/\w'.cell? ⟨g0,o0+j*2+1,none⟩=some (.int .i64 e.kind)) [(true,0),(true,1),(true,2),(true,3),(true,4),(true,5),(true,6),(true,7),(true,8),(true,9),(true,10),(false,11),(true,12),(true,13),(false,14)] 15 (by kernel_rfl) (by kernel_rfl) ?_ ?_ ?_
     ·exact fun _ _ _ _ _ h=>h
     ·exact⟨c0,e0,bf⟩
     intro _;simp only[QT.pickM,filterMap_cons,filterMap_nil,getElem?_cons_succ,getElem?_cons_zero,Option.map_some,drop_succ_cons,drop_zero];iterate 11 (refine QT.wpMix_take _ (by rfl) (by intro w' ao;obtain⟨y0,y1,-⟩:=ao;go_simp;first|done|rfl) ?_;try simp only[Act.put,setIfInBounds_toArray,set_cons_zero,set_cons_succ])
     intro K' hK;rw[if_pos (by rfl)];go_simp;refine(CF.out _ (Below.refl _ _).drew).mono ?_;rintro r w5 ⟨z,e,rfl,bL,cI,fV,ed⟩;simp only[];have B5:Hid (Below w4.heap.size w4 w5):=hid (((Below.refl _ _).drew).trans ed);clear ed;have s0:=(B5.out.cell (p:=⟨Q,0,none⟩) aU).trans c0;have s1:=(B5.out.cell (p:=⟨g,o+k*4,none⟩) ak).trans e0;have s2:∀(j:Nat) (e:Nd),D.names[j]?=some e->w5.cell? ⟨g0,o0+j*2,none⟩=some (txt e.path)/\w5.cell? ⟨g0,o0+j*2+1,none⟩=some (.int .i64 e.kind):=fun j e he=>⟨(B5.out.cell (p:=⟨g0,o0+j*2,none⟩) eA).trans (dD.out j e he).1,(B5.out.cell (p:=⟨g0,o0+j*2+1,none⟩) eA).trans (dD.out j e he).2⟩;refine hK.out _ _ ⟨s0,s1,s2⟩ ?_;clear hK K';try simp only[Act.put,setIfInBounds_toArray,set_cons_zero,set_cons_succ]
     have fT:(z:Int)<NN:=by omega
     have d9:txt e.path=.string Y:=by rw[cI];exact bv.out
     obtain⟨kd,cT⟩:∃ x,e.kind=x:=⟨_,rfl⟩
     have bR:∀ w':World,(∀(j:Nat) (e:Nd),D.names[j]?=some e->w'.cell? ⟨g0,o0+j*2,none⟩=some (txt e.path)/\w'.cell? ⟨g0,o0+j*2+1,none⟩=some (.int .i64 e.kind))->w'.cell? ⟨g0,o0+z*2,none⟩=some (.string Y)/\w'.cell? ⟨g0,o0+z*2+1,none⟩=some (.int .i64 kd):=fun w' h=>by
      have h1:=h z e bL;rw[d9,cT]at h1;exact h1
     iterate 2 (refine QT.wpMix_take _ (by rfl) (by intro w' ao;obtain⟨y0,y1,y2⟩:=ao;obtain⟨y3,y4⟩:=bR w' y2;go_simp;first|done|rfl) ?_;try simp only[Act.put,setIfInBounds_toArray,set_cons_zero,set_cons_succ])
     intro K' hK;rw[if_pos (by rfl)];go_simp;simp only[bv.out]
     have bu:inoN D.names y.path=kd:=by
      have h1:=HV.out.names.entry (mem_of_getElem? bL);rw[cI]at h1;rw[<- cT,h1];rfl
     have fI:=B5.out.size;have bz:Below w5.heap.size w5 (w5.alloc (.cells #[.string Y,.int .i64 kd] 130)):=(Below.refl _ _).alloc (Nat.le_refl _) _;have rz:=heap_alloc_new w5 (.cells #[.string Y,.int .i64 kd] 130);refine hK.out _ _ ⟨(bz.cell (p:=⟨Q,0,none⟩) (by show Q<_;omega)).trans s0,(bz.cell (p:=⟨g,o+k*4,none⟩) (by show g<_;omega)).trans s1,fun j e he=>⟨(bz.cell (p:=⟨g0,o0+j*2,none⟩) (by show g0<_;omega)).trans (s2 j e he).1,(bz.cell (p:=⟨g0,o0+j*2+1,none⟩) (by show g0<_;omega)).trans (s2 j e he).2⟩⟩ ?_;clear hK K';refine QT.wpMix_nil ?_;try simp only[Act.put,setIfInBounds_toArray,set_cons_zero,set_cons_succ]
     obtain⟨v9,w9,ag,al,aw,bO,aj⟩:=ke_push (L:=edK D t p k) (e:=edE D t p k y) ⟨_,X4.out.below B5.out⟩ (owns_below O4.out B5.out) cb.out (by rw[cY];omega) dE.out (by omega) bz rz (by rw[b4.out];exact bv.out) (by rw[b4.out];exact bu);have c7:=hid al;have cS:=hid aw;have cC:=hid bO;have ba:=hid aj;clear al aw bO aj bz rz s0 s1 s2 cI d9 cT bu bR bL c0 e0 e1 e2 e3 bf;repeat (first|(at_builtin;refine wpList_app_eq rfl (.tmp 78) (.tmp 92) 53 53 rfl _ _ rfl rfl ag ?_)|go_skip|go_guarded|go_step|go_upon)
     refine NoPanic.normal ?_;repeat (first|go_skip|go_guarded|go_step|go_upon)
     have O5:=hid (owns_below O4.out B5.out);have N5:=hid (owns_below N4.out B5.out);have b5:=hid ((B5.out.block _ bK).trans Box4.out);refine⟨⟨k+1,by go_num,by omega,⟨⟨T1,?_,aE.out,bm.out,cC.out,aV.out⟩,?_,?_,?_⟩,?_⟩,by simp[RowKit.intOf];omega⟩
     ·rw[cg.out];exact cS.out
     ·refine((ax.out.thenBelow B4.out).thenBelow B5.out).then ba.out (fun j hj h=>?_);have:=(O5.out.lt j h).1;omega
     ·rw[edK_succ HY.out];exact c7.out
     ·rw[HN.out];exact own_same N5.out fun g' hg'=>ba.out.block g' (N5.out.lt g' hg').2 (fun e=>(own_type N5.out g' hg').ne (own_type O5.out g' e) (by decide) rfl)
     ·exact(ba.out.block _ (by omega) (fun e=>(own_type O5.out _ e).ne ⟨_,_,b5.out⟩ (by decide) rfl)).trans b5.out
   ·have cR:¬(k:Int)<n:=by omega
    have cD:k=n:=by omega
    subst cD;obtain⟨⟨T1,aT,aK,cq,aC,aH⟩,ac,aq,az⟩:=cO;have a7:=edK_len (D:=D) (t:=t) (p:=p) (k:=k) (by rw[HN.out];exact Nat.le_refl _);obtain⟨a9,c9,rfl,dB⟩:=layR_own (T:=fun _=>True) aq (fun _ _=>trivial);have hE:=cW.out;rw[HN.out]at hE;have aI:t.take k=t:=List.take_of_length_le (by rw[HN.out];exact Nat.le_refl _);rw[aI]at aT;have ca:=bQ.out;rw[hE]at ca
    have CC:=kchanged_any w wr T1 Q m m (inosR D (D.inos++freshR D (inE t p))) (edK D t p k) a9 c9 aT (fun _=>True) dB (by rw[a7];omega) (fun e he=>by
     rcases (edK_mem (D:=D) (t:=t) (p:=p) k (by rw[HN.out];exact Nat.le_refl _) e).1 he with h|⟨z,hz,_,rfl⟩
     ·obtain⟨_,_,z,hz,bL,_⟩:=freshes_kind D _ e h;rw[bL];have aQ:=(List.mem_filter.1 hz).1;rw[aI]at aQ;have:=((path_iff z.path).1 (cM.out.path z aQ)).1;omega
     ·rw[aI]at hz;show z.path.length<=_;have:=((path_iff z.path).1 (cM.out.path z hz)).1
      omega) hm (by rw[a7];exact ca)
    rw[a7]at CC;rw[a7];rw[<- hE]at CC;have cU:=hid CC;have aE:=hid aK;have ax:=hid ac;clear CC aT aK cq aC aH ac aq az dB a7 hE aI ca a6 ab dK bE;repeat (first|(go_at_call 138;refine cU.out.mono ?_;rintro r w6 ⟨rfl,bp⟩;simp only[];have aM:=hid bp;clear bp)|go_skip|go_guarded|go_step|go_upon)
    go_end0
    exact⟨rfl,RAft.chain aE.out ax.out aM.out⟩
 ·have fO:((er:Int) != 0)=true:=by simp;omega
  have eL:Hid (editR D p v=D):=hid (editR_no (by omega));clear cZ ht bo o3 b3 hz o2 b2 be bd cm bZ q1 q2;repeat (first|go_skip|go_guarded|go_step|go_upon)
  (try simp only[Exit.inBlock,Exit.then])
  refine bodyPost_ret (results_none rfl _ _ _) rfl ?_;rw[eL.out];exact⟨rfl,(RAft.same HR.out).later B3.out⟩
end RK
end
section
open Go.RowKit Go.Lib Go.BigFrame
namespace RK
open OM TP TM DP DM FP DG TG TR
theorem RX.growTrace{w W W':World}{T:Nat->Prop}{Q m m':Nat}{D D':Dk}{x:RP}{v:Value}(h:RX w T W Q m D x)(ho:Out (fun k=>k=Q\/x.vt.ownBlock=some k) W W')
  (h1:D'.names=D.names) (h2:D'.safe=D.safe) (h3:D'.later=D.later) (h4:D'.inos=D.inos) (h5:D'.fates=D.fates) (h6:D'.edits=D.edits)
  (av:W'.heap[Q]?=some (.cells (rdC D' { x with vt:=v }) 57 (0,0)))
  (hi:W'.ownsRow 0 75 3 v D'.trace.length (didsC D'.trace)) (hv:v.ownBlock=x.vt.ownBlock\/∃ g,v.ownBlock=some g/\W.heap.size<=g/\g<W'.heap.size) (hnum:Num m' D'):RAft w W T Q m' D' W':=by
 have hQ:=(Array.getElem?_eq_some_iff.1 h.row).1
 have dt:∀ k,T k->x.vt.ownBlock≠some k->W'.heap[k]?=W.heap[k]?:=fun k hk hn=>ho.block k (h.lt k hk) (fun e=>by
  rcases e with e|e
  ·exact h.np (e ▸ hk)
  ·exact hn e)
 have ab:∀ k,x.vt.ownBlock=some k->IsT W k 75:=fun k hk=>own_type h.trace k hk;have hE:∀ g,T g->IsT W g 130->W'.heap[g]?=W.heap[g]?:=fun g hg hi=>dt g hg (fun e=>(ab g e).ne hi (by decide) rfl);have hL:∀ g,x.vl.ownBlock=some g->W'.heap[g]?=W.heap[g]?:=fun g hg=>dt g (h.lin g hg) (fun e=>(ab g e).ne (own_type h.later g hg) (by decide) rfl);have hI:∀ g,x.vi.ownBlock=some g->W'.heap[g]?=W.heap[g]?:=fun g hg=>dt g (h.iin g hg) (fun e=>(ab g e).ne (own_type h.inos g hg) (by decide) rfl);refine⟨fun k=>T k\/(W.heap.size<=k/\k<W'.heap.size),⟨{ x with vt:=v },⟨av,?_,?_,?_,?_,(fun g hg=>.inl (h.lin g hg)),?_,?_,(fun g hg=>.inl (h.iin g hg)),hi,?_,?_,?_,?_,fun k hk=>?_,h.ql,fun k hk=>?_,?_,?_,hnum⟩⟩,fun k hk=>hk.imp id (·.1),ho.mono (fun k _ hk=>?_)⟩
 ·rw[h1];exact(h.names.same ho.size hE).sup (fun _=>.inl)
 ·rw[h2];exact(h.safe.same ho.size hE).sup (fun _=>.inl)
 ·rw[h3];exact own_same h.later hL
 ·rw[h3];exact h.llen
 ·intro j a l h7 h8;rw[h3]at h8;exact((h.each j a l h7 h8).same ho.size hE).sup (fun _=>.inl)
 ·rw[h4];exact own_same h.inos hI
 ·intro g hg;have hg:v.ownBlock=some g:=hg;rcases hv with h1|⟨g',h1,h2,h3⟩
  ·exact .inl (h.tin g (by rw[<- h1];exact hg))
  ·rw[hg]at h1;injection h1 with h1;rw[h1];exact .inr ⟨h2,h3⟩
 ·rw[h5];exact h.fates
 ·rw[h6];exact h.edits
 ·rw[h6];exact h.epath
 ·rcases hk with h1|h1
  ·exact h.lo k h1
  ·exact Nat.le_trans h.bel.size h1.1
 ·rcases hk with h1|h1
  ·exact Nat.lt_of_lt_of_le (h.lt k h1) ho.size
  ·exact h1.2
 ·rintro (h1|h1)
  ·exact h.np h1
  ·omega
 ·exact((Out.of_below h.bel).then ho (fun j _ hj=>by
   rcases hj with hj|hj
   ·rw[hj];exact h.ql
   ·exact h.lo j (h.tin j hj))).below (fun k hk _ h2=>by omega) (Nat.le_refl _)
 ·rcases hk with h1|h1
  ·exact .inr h1
  ·exact .inl (h.tin k h1)
theorem RX.mono{w W:World}{T:Nat->Prop}{Q m n:Nat}{D:Dk}{x:RP}(h:RX w T W Q m D x)(hm:m<=n):RX w T W Q n D x:={ h with num:=h.num.mono hm }
theorem RS.mono{w W:World}{T:Nat->Prop}{Q m n:Nat}{D:Dk}(h:RS w W T Q m D)(hm:m<=n):RS w W T Q n D:=by
 obtain⟨x,h⟩:=h;exact⟨x,h.mono hm⟩
def edsR(D:Dk)(l:List Edit):Dk:={ editsD (tickR D) D.trace.length l with clock:=D.clock }
theorem edsR_same(D:Dk)(l:List Edit):(edsR D l).clock=D.clock/\(edsR D l).trace=D.trace/\(edsR D l).edits=D.edits/\(edsR D l).fates=D.fates/\(edsR D l).off=D.off:=by
 obtain⟨_,h2,h3,h4,h5,_⟩:=edits_same (tickR D) D.trace.length l;exact⟨rfl,h2,h3,h4,h5⟩
theorem tick_eds(D:Dk)(l:List Edit):tickR (edsR D l)=editsD (tickR D) D.trace.length l:=by
 have h:(editsD (tickR D) D.trace.length l).clock=D.clock+1:=(edits_same (tickR D) D.trace.length l).1;unfold edsR;generalize editsD (tickR D) D.trace.length l=E at h ⊢;obtain⟨e1,e2,e3,e4,e5,e6,e7,e8,e9⟩:=E;have h:e6=D.clock+1:=h;subst h;rfl
theorem edsR_yes{D:Dk}{es:List Edit}{k:Nat}{e:Edit}(he:es[k]?=some e)(h:e.at_=(D.trace.length:Int)):edsR D (es.take (k+1))=editR (edsR D (es.take k)) e.path e.value:=by
 unfold edsR;rw[edits_succ (tickR D) D.trace.length he,if_pos h];unfold editR;rw[show tickR ({ editsD (tickR D) D.trace.length (es.take k)with clock:=D.clock }:Dk)=editsD (tickR D) D.trace.length (es.take k) from tick_eds D (es.take k)]
theorem edsR_no{D:Dk}{es:List Edit}{k:Nat}{e:Edit}(he:es[k]?=some e)(h:¬ e.at_=(D.trace.length:Int)):edsR D (es.take (k+1))=edsR D (es.take k):=by
 unfold edsR;rw[edits_succ (tickR D) D.trace.length he,if_neg h]
theorem V.eds{D:Dk}(h:V D)(l:List Edit):V (edsR D l):=by
 have h1:V (tickR D):=h.turn rfl rfl rfl rfl rfl;exact(V.editsD l h1 D.trace.length).turn rfl rfl rfl rfl rfl
theorem eds_num{m:Nat}{D:Dk}(h:Num m D){l:List Edit}(hl:l.length<=D.edits.length):Num (m+1) (edsR D l):=by
 obtain⟨h1,h2,h3,h4,h5,h6,h7⟩:=edits_same (tickR D) D.trace.length l;obtain⟨_,g2,g3,_,_⟩:=edsR_same D l;have a1:=h.clock;have a2:=h.trace;have a3:=h.later;have a4:=h.inos;have a5:=h.edits;have b1:(tickR D).later.length=D.later.length:=rfl;have b2:(tickR D).inos.length=D.inos.length:=rfl;refine⟨?_,?_,?_,?_,?_,?_,?_⟩
 ·show D.clock<=_;omega
 ·rw[g2];omega
 ·show(editsD (tickR D) D.trace.length l).later.length<=_;omega
 ·show(editsD (tickR D) D.trace.length l).inos.length<=_;omega
 ·rw[g3];exact a5
 ·rw[g3];exact h.path
 ·rw[g3];exact h.long
theorem begun_eds(D:Dk)(c:Did):begunD D c={ edsR D D.edits with clock:=D.clock+1,trace:=D.trace++[c] }:=by
 have h:=edits_same (tickR D) D.trace.length D.edits;unfold begunD edsR;show({ editsD (tickR D) D.trace.length D.edits with trace:=(editsD (tickR D) D.trace.length D.edits).trace++[c] }:Dk)={ editsD (tickR D) D.trace.length D.edits with clock:=D.clock+1,trace:=D.trace++[c] };rw[h.2.1];have h':D.clock+1=(editsD (tickR D) D.trace.length D.edits).clock:=h.1.symm;rw[h'];rfl
def KfInv(fs:List Fate)(T:Int)(n:Nat)(w:World)(s12:Value)(wr:World):Prop :=
 ∃ k:Nat,s12=.int .i64 k/\k<=n/\NoneTo fs T k/\Below w.heap.size w wr
theorem farg_at{w W:World}{af:Option Addr}{fs:List Fate}(h:FArg w af fs)(hb:Below w.heap.size w W){k:Nat}{f:Fate}(hk:fs[k]?=some f) :
  ∃ g o,af=some ⟨g,o,none⟩/\g<W.heap.size/\W.cell? ⟨g,o+k*4,none⟩=some (.int .i64 f.at_)/\W.cell? ⟨g,o+k*4+1,none⟩=some (.int .i64 f.what)/\W.cell? ⟨g,o+k*4+2,none⟩=some (.int .i64 f.keep)/\W.cell? ⟨g,o+k*4+3,none⟩=some (.int .i64 f.torn):=by
 have eN:=(List.getElem?_eq_some_iff.1 hk).1
 cases af with
 | none=>have:=h.no rfl;omega
 | some ad =>
  obtain⟨f0,f1,f2,f3⟩:=fates_at fs k f hk;have c:=fun j u hu=>h.at_ ad rfl j u hu;have ab:=h.lt ad rfl (by omega);obtain⟨b,off,cV⟩:=ad;have c0:=c _ _ f0
  have bC:cV=none:=by
   obtain⟨z0,-⟩:=fates_at fs 0 (fs[0]'(by omega)) (getElem?_eq_getElem _);have h1:=World.cell?_spot (c _ _ z0);simpa[Addr.add] using h1
  subst bC;have c1:=c _ _ f1;have c2:=c _ _ f2;have c3:=c _ _ f3;have e:∀ j,(⟨b,off,none⟩:Addr).add j=⟨b,off+j,none⟩:=fun j=>by unfold Addr.add;split<;>simp_all
  rw[e]at c0 c1 c2 c3;have hz:=hb.size;exact⟨b,off,rfl,by have:b<w.heap.size:=ab;omega,(hb.cell (p:=⟨b,off+k*4,none⟩) ab).trans c0,(hb.cell (p:=⟨b,off+k*4+1,none⟩) ab).trans (by rw[Nat.add_assoc];exact c1),(hb.cell (p:=⟨b,off+k*4+2,none⟩) ab).trans (by rw[Nat.add_assoc];exact c2),(hb.cell (p:=⟨b,off+k*4+3,none⟩) ab).trans (by rw[Nat.add_assoc];exact c3)⟩
theorem did_app(w1:World)(s L:Nat)(vt:Value)(ds:List Did)(c:Did)(Y1 Y2 Y3:ByteArray)(hs:w1.heap.size=s)(ho:w1.ownsRow 0 75 3 vt L (didsC ds))(hL:L<=1000)(h1:txt c.call=.string Y1)(h2:txt c.path=.string Y2)(h3:txt c.to=.string Y3) :
  ∃ v' w',(Builtin.append_ #[39,39] 39 #[vt,.slice (some ⟨s,0,none⟩) 1 1]).run Tryz.prog (w1.alloc (.cells #[.string Y1,.string Y2,.string Y3] 75))=.ok v' w' /\
   w'.ownsRow 0 75 3 v' (L+1) (didsC ds++didC c)/\(w1.alloc (.cells #[.string Y1,.string Y2,.string Y3] 75)).grownBy w' vt.ownBlock/\(v'.ownBlock=vt.ownBlock\/v'.ownBlock=some (s+1)):=by
 obtain⟨i0,bW,cj,bV,aQ⟩:=info_parts infoDid;obtain⟨v',w',g1,g2,g3,_,g4⟩:=run_append_own_at (P:=Tryz.prog) (w1.alloc (.cells #[.string Y1,.string Y2,.string Y3] 75)) 0 39 39 75 i0 _ 3 48 Tryz.underlying39 bW cj bV aQ rfl (by decide) _ L _ (ho.alloc _) ⟨s,0,none⟩ 1 1 (didC c) rfl (did_new _ _ hs.symm c _ _ _ h1 h2 h3 75) (did_one c) (by unfold maxLen;omega) (by omega) (Nat.zero_le _);rw[World.size_alloc,hs]at g4;exact⟨v',w',g1,g2,g3,g4⟩
def fullB(D:Dk)(c:Did)(b:Bool):Prop:=(stepD D c).2=0->b=decide ((fateD (stepD D c).1).what=2)
theorem kstep_any(w W:World)(T:Nat->Prop)(Q m:Nat)(D:Dk)(c:Did)(h:RS w W T Q m D)(hv:V D)(hm:m+1<=1000) :
  Calls Tryz.prog 132 #[.pointer (some ⟨Q,0,none⟩),txt c.call,txt c.path,txt c.to] W fun r W'=>(∃ b,r=.returned (.tuple #[.int .i64 (stepD D c).2,.bool b])/\fullB D c b)/\RAft w W T Q (m+1) (stepD D c).1 W':=by
 obtain⟨i0,bW,cj,bV,aQ⟩:=info_parts infoDid;obtain⟨x,hx⟩:=h;have hr:=hx.row;unfold rdC at hr;have fJ:=(Array.getElem?_eq_some_iff.1 hr).1;obtain⟨Y1,co,_⟩:=txt_of c.call;obtain⟨Y2,cp,_⟩:=txt_of c.path;obtain⟨Y3,bX,_⟩:=txt_of c.to;rw[co,cp,bX];have HX:=hid hx;have fD:=hid co;have fF:=hid cp;have fz:=hid bX;have aZ:Hid (∀ b,fullB D c b=((stepD D c).2=0->b=decide ((fateD (stepD D c).1).what=2))):=hid (fun _=>rfl);obtain⟨FB,dn⟩:∃ FB,fullB D c=FB:=⟨_,rfl⟩;rw[dn]at aZ;obtain⟨Z,hZ⟩:∃ Z,stepD D c=Z:=⟨_,rfl⟩;have HZ:=hid hZ;rw[dn,hZ];rw[hZ]at aZ;clear dn
 cases hoff:D.off with
 | true =>
  rw[hoff]at hr;have fx:Hid (Z=(D,75)):=hid (by rw[<- HZ.out];unfold stepD;rw[if_pos hoff]);obtain⟨-,-,-,-,c4,-⟩:=row10 hr;clear hx hv co cp bX hZ hr hoff;go_enter Tryz.func132,Tryz.ntmps132;repeat (first|go_skip|go_guarded|go_step|go_upon)
  go_ret2;have aa:=aZ.out false;rw[fx.out]at aa ⊢;exact⟨⟨false,rfl,by rw[aa];intro h0;cases h0⟩,T,⟨_,HX.out.mono (Nat.le_succ m)⟩,fun _ h=>.inl h,Out.refl _ _⟩
 | false =>
  obtain⟨n,hn⟩:∃ n,D.edits.length=n:=⟨_,rfl⟩;obtain⟨es,bj⟩:∃ es,D.edits=es:=⟨_,rfl⟩;obtain⟨L,hL⟩:∃ n,D.trace.length=n:=⟨_,rfl⟩;have eJ:L<=1000:=by have:=hx.num.trace;omega
  have ca:n<=1048576:=by have:=hx.num.edits;omega
  obtain⟨cz,de⟩:∃ n,D.clock=n:=⟨_,rfl⟩;have fK:cz<=1000:=by have:=hx.num.clock;omega
  have dA:Z=if(fateD (begunD D c)).what=3 then(crashD (begunD D c) (fateD (begunD D c)).keep (fateD (begunD D c)).torn,75)else if(fateD (begunD D c)).what=1 then(begunD D c,70)else(begunD D c,0):=by
   rw[<- hZ];unfold stepD;rw[if_neg (by rw[hoff];exact Bool.false_ne_true)]
  have eZ:=hid dA;have HN:Hid (es.length=n):=hid (by rw[<- bj];exact hn);have HL:=hid hL;have HC:=hid de;have bq:=hid hoff;have fd:Hid (begunD D c={ edsR D es with clock:=D.clock+1,trace:=D.trace++[c] }):=hid (by rw[<- bj];exact begun_eds D c)
  have bP:Hid (∀ k,(edsR D (es.take k)).edits=es/\(edsR D (es.take k)).trace.length=L/\(edsR D (es.take k)).clock=cz/\(edsR D (es.take k)).off=false/\V (edsR D (es.take k))):=hid (fun k=>by
   obtain⟨g1,g2,g3,_,g5⟩:=edsR_same D (es.take k)
   exact⟨g3.trans bj,by rw[g2];exact hL,g1.trans de,g5.trans hoff,hv.eds _⟩)
  have cW:Hid (∀(k:Nat) (e:Edit) (V:World) (T1:Nat->Prop),es[k]?=some e->e.at_=(L:Int)->RS w V T1 Q (m+1) (edsR D (es.take k))->∀ a vo vc,LayN V vo e.value->e.value.length<=vc->Calls Tryz.prog 176 #[.pointer (some ⟨Q,0,none⟩),.agg #[.int .i64 a,txt e.path,.slice vo e.value.length vc]] V fun r W'=>r=.returned (.tuple #[])/\RAft w V T1 Q (m+1) (edsR D (es.take (k+1))) W'):=hid (fun k e V T1 hk ha hrs a vo vc hl hc=>by
   have eN:=(List.getElem?_eq_some_iff.1 hk).1;have ee:=edsR_yes (D:=D) hk (by rw[hL];exact ha);have aF:=hv.edits e (by rw[bj];exact mem_of_getElem? hk);rw[ee];refine kedit_any w V T1 Q (m+1) _ a e.path vo vc e.value hrs (hv.eds _) hl aF.2.1 aF.2.2 hc aF.1 hm ?_;rw[<- ee]
   exact eds_num hx.num (by rw[List.length_take,bj];omega))
  have fA:=hid (begun_num hx.num c);have fo:=hid (hv.begun c);have D0:Hid (RAft w W T Q (m+1) (edsR D (es.take 0)) W):=hid ⟨T,⟨_,hx.mono (Nat.le_succ m)⟩,fun _ h=>.inl h,Out.refl _ _⟩;rw[hoff,hL]at hr;obtain⟨-,-,-,-,c4,c5,-⟩:=row10 hr;clear hx hv co cp bX hZ hr hoff dA hn bj hL de HX;go_enter Tryz.func132,Tryz.ntmps132;repeat (first|go_skip|go_guarded|go_step|go_upon)
  go_loopw [11] (fun s11 wr=>∃ k:Nat,s11=.int .i64 k/\k<=n/\RAft w W T Q (m+1) (edsR D (es.take k)) wr) (fun s11 _=>n-(RowKit.intOf s11).toNat)
  case atStart=>exact⟨0,rfl,Nat.zero_le _,D0.out⟩
  case round =>
   obtain⟨k,rfl,hk,bh⟩:=hrel;have dZ:=hid bh;obtain⟨T1,⟨x1,h1⟩,aK,aY⟩:=bh;obtain⟨g1,g2,g3,g4,g5⟩:=bP.out k;have bl:=h1.row;unfold rdC at bl;rw[g1,g2,g3,g4,HN.out]at bl;have cu:=hid h1;have am:=h1.edits;rw[g1]at am;have au:=h1.bel;obtain⟨ae,dX⟩:∃ a,x1.ae=a:=⟨_,rfl⟩;obtain⟨ce,d4⟩:∃ a,x1.ce=a:=⟨_,rfl⟩;rw[dX,d4]at bl am;obtain⟨-,-,-,-,-,-,-,-,-,c9,-⟩:=row10 bl;have aE:=hid aK;have cP:=hid aY;clear h1 aK aY g1 g2 g3 g4 g5 dX d4;by_cases ab:k<n
   ·have cR:(k:Int)<n:=by omega
    obtain⟨e,aF⟩:∃ e,es[k]?=some e:=⟨es[k]'(by rw[HN.out];exact ab),getElem?_eq_getElem _⟩;obtain⟨v,du⟩:∃ v,x1.evs[k]?=some v:=⟨x1.evs[k]'(by rw[am.lens,HN.out];exact ab),getElem?_eq_getElem _⟩;obtain⟨g,o,rfl,hg,hc⟩:=am.lay (by rw[HN.out];omega);obtain⟨y0,y1,y2⟩:=hc k e v aF du;obtain⟨cH,-⟩:=am.vals k e v aF du;have e0:=(au.cell (p:=⟨g,o+k*3,none⟩) hg).trans y0;have e1:=(au.cell (p:=⟨g,o+k*3+1,none⟩) hg).trans y1;have e2:=(au.cell (p:=⟨g,o+k*3+2,none⟩) hg).trans y2
    have CE:Hid (e.at_=(L:Int)->Calls Tryz.prog 176 #[.pointer (some ⟨Q,0,none⟩),.agg #[.int .i64 e.at_,txt e.path,.slice v.a e.value.length v.c]] wr fun r W'=>r=.returned (.tuple #[])/\RAft w wr T1 Q (m+1) (edsR D (es.take (k+1))) W'):=hid (fun ha =>
     cW.out k e wr T1 aF ha ⟨x1,cu.out⟩ e.at_ v.a v.c (cH.lay.below au) cH.cap)
    have bk:Hid (¬ e.at_=(L:Int)->edsR D (es.take (k+1))=edsR D (es.take k)):=hid (fun ha=>edsR_no aF (by rw[HL.out];exact ha))
    have fB:Hid (∀ W',RAft w wr T1 Q (m+1) (edsR D (es.take (k+1))) W'->RAft w W T Q (m+1) (edsR D (es.take (k+1))) W'):=hid (fun W' hh=>by
     exact RAft.chain aE.out cP.out hh)
    obtain⟨ea,ep,ev⟩:=e;obtain⟨va,vc⟩:=v;simp only at e0 e1 e2 CE bk;obtain⟨Y,hY,_⟩:=txt_of ep;obtain⟨ln,b8⟩:∃ n,ev.length=n:=⟨_,rfl⟩;rw[hY]at e1 CE;rw[b8]at e2 CE;clear hc aF du y0 y1 y2 cH hY b8 am au ab bl;by_cases hq:ea=(L:Int)
    ·have fc:(ea==(L:Int))=true:=by rw[hq];exact beq_self_eq_true _
     have fE:=hid (CE.out hq);clear hq CE;repeat (first|(go_at_call 176;refine fE.out.mono ?_;rintro r w6 ⟨rfl,bp⟩;simp only[];have aM:=hid (fB.out _ bp);clear bp)|go_skip|go_guarded|go_step|go_upon)
     exact⟨⟨k+1,by go_num,by omega,aM.out⟩,by simp[RowKit.intOf];omega⟩
    ·have fc:(ea==(L:Int))=false:=by simpa using hq
     have eR:=hid (bk.out hq);clear hq CE;repeat (first|go_skip|go_guarded|go_step|go_upon)
     exact⟨⟨k+1,by go_num,by omega,by rw[eR.out];exact dZ.out⟩,by simp[RowKit.intOf];omega⟩
   ·have cR:¬(k:Int)<n:=by omega
    have cD:k=n:=by omega
    have aI:es.take k=es:=List.take_of_length_le (by rw[HN.out];omega);rw[aI]at dZ;have aR:=cu.out;rw[aI]at aR;have fu:=hid aR;obtain⟨eb,dx,aB,_⟩:=owns_view aR.trace;have aC:(edsR D es).trace.length=L:=by rw[(edsR_same D es).2.1];exact HL.out
    have dH:(edsR D es).clock=cz:=HC.out;rw[aC]at aB;have aY:=aR.trace;rw[aC]at aY
    have r1:wr.heap[Q]?=some (.cells #[.slice x1.an (edsR D es).names.length x1.cn,.slice x1.as_ (edsR D es).safe.length x1.cs,x1.vl,x1.vi,.bool false,.int .i64 (L:Nat),.int .i64 (cz:Nat),.slice eb L dx,.slice x1.af (edsR D es).fates.length x1.cf,.slice x1.ae (edsR D es).edits.length x1.ce] 57 (0,0)):=by
     have h:=aR.row;unfold rdC at h;rw[aB,aC,dH]at h;rw[(edsR_same D es).2.2.2.2,bq.out]at h;exact h
    have fL:=(Array.getElem?_eq_some_iff.1 r1).1;have r2:=row_set (j:=6) (row_set (j:=5) r1 (.int .i64 ((L:Int)+1))) (.int .i64 ((cz:Int)+1));have fW:IntKind.i64.wrap ((L:Int)+1)=(L:Int)+1:=by rw[IntKind.wrap_i64];omega
    have fQ:IntKind.i64.wrap ((cz:Int)+1)=(cz:Int)+1:=by rw[IntKind.wrap_i64];omega
    have eE:RowKit.wrap64 ((L:Int)+1)=(L:Int)+1:=by unfold RowKit.wrap64;omega
    have eT:RowKit.wrap64 ((cz:Int)+1)=(cz:Int)+1:=by unfold RowKit.wrap64;omega
    obtain⟨-,-,-,-,-,d5,d6,d7,-,-,df⟩:=row10 r1;clear ab bl au am;have bx:x1.vt.ownBlock≠some Q:=fun e=>aR.np (aR.tin Q e)
    have bt:∃ v' w',(Builtin.append_ #[39,39] 39 #[.slice eb L dx,.slice (some ⟨wr.heap.size,0,none⟩) 1 1]).run Tryz.prog (((wr.setCell ⟨Q,5,none⟩ (.int .i64 ((L:Int)+1))).setCell ⟨Q,6,none⟩ (.int .i64 ((cz:Int)+1))).alloc (.cells #[.string Y1,.string Y2,.string Y3] 75))=.ok v' w' /\
      w'.ownsRow 0 75 3 v' (L+1) (didsC (edsR D es).trace++didC c)/\(((wr.setCell ⟨Q,5,none⟩ (.int .i64 ((L:Int)+1))).setCell ⟨Q,6,none⟩ (.int .i64 ((cz:Int)+1))).alloc (.cells #[.string Y1,.string Y2,.string Y3] 75)).grownBy w' x1.vt.ownBlock/\(v'.ownBlock=x1.vt.ownBlock\/v'.ownBlock=some (wr.heap.size+1)):=by
     rw[aB]at bx aY ⊢;exact did_app _ _ _ _ _ c _ _ _ (by rw[set_size,set_size]) (own_same (own_same aY (fun g hg=>set_other wr Q 5 g (.int .i64 ((L:Int)+1)) (fun e=>bx (e ▸ hg)))) (fun g hg=>set_other (wr.setCell ⟨Q,5,none⟩ (.int .i64 ((L:Int)+1))) Q 6 g (.int .i64 ((cz:Int)+1)) (fun e=>bx (e ▸ hg)))) eJ fD.out fF.out fz.out
    have dj:=hid bt;have R2:=hid r2;have ex:=hid bx;clear bt aR aB aY dH bx aI cD r1 r2 aC;repeat (first|(at_builtin;obtain⟨v5,w5,ag,aA,ap,aP⟩:=dj.out;obtain⟨a5,k5,eB,fC⟩:=owns_view aA;clear fC;subst eB;refine wpList_app_eq rfl (.tmp 66) (.tmp 71) 39 39 rfl _ _ rfl rfl ag ?_;have ef:=hid aA;have eF:=hid ap;have dP:=hid aP;have r5:=(ap.block Q (by rw[World.size_alloc,set_size,set_size];omega) (fun e=>ex.out e.symm)).trans (old_row R2.out);have R5:=hid r5;obtain⟨-,-,-,-,-,-,-,f7,-,-,ff⟩:=row10 r5;clear ag aA ap aP r5)|go_skip|go_guarded|go_step|go_upon)
    obtain⟨B,hB⟩:∃ B,begunD D c=B:=⟨_,rfl⟩;have aD:{ edsR D es with clock:=D.clock+1,trace:=D.trace++[c] }=B:=by rw[<- fd.out];exact hB
    have dg:=fA.out;have cK:=fo.out;have bY:=eZ.out;rw[hB]at dg cK bY;have di:=hid cK;have dR:=hid bY;have cB:B.trace=D.trace++[c]:=by rw[<- aD]
    have ec:((B.trace.length:Int)-1)=(L:Int):=by
     rw[cB,length_append,length_singleton,HL.out];omega
    have dM:=hid ec;have av:=row_set (j:=7) R5.out (.slice a5 (L+1) k5)
    have ac:Out (fun k=>k=Q\/x1.vt.ownBlock=some k) wr (w5.setCell ⟨Q,7,none⟩ (.slice a5 (L+1) k5)) :=
     (((((Out.refl _ wr).setCell (p:=⟨Q,5,none⟩) (fun _=>.inl rfl) _).setCell (p:=⟨Q,6,none⟩) (fun _=>.inl rfl) _).alloc (.cells #[.string Y1,.string Y2,.string Y3] 75)).grown eF.out (fun k hk _=>.inr hk)).setCell (p:=⟨Q,7,none⟩) (fun _=>.inl rfl) _
    have br:∀ g,(Value.slice a5 (L+1) k5).ownBlock=some g->g≠Q:=fun g hg e=>by
     rcases dP.out with h1|h1
     ·rw[h1]at hg;exact ex.out (e ▸ hg)
     ·rw[h1]at hg;injection hg with hg;omega
    have bh:RAft w wr T1 Q (m+1) B (w5.setCell ⟨Q,7,none⟩ (.slice a5 (L+1) k5)):=by
     refine fu.out.growTrace (D':=B) (v:=.slice a5 (L+1) k5) ac (by rw[<- aD]) (by rw[<- aD]) (by rw[<- aD]) (by rw[<- aD]) (by rw[<- aD]) (by rw[<- aD]) ?_ ?_ ?_ dg.num
     ·rw[av];unfold rdC;rw[<- aD];simp only;rw[show(edsR D es).off=false by rw[(edsR_same D es).2.2.2.2];exact bq.out,length_append,length_singleton,HL.out,HC.out];rfl
     ·rw[cB,dids_snoc,length_append,length_singleton,HL.out];have h1:=own_same ef.out fun g hg=>set_other w5 Q 7 g (.slice a5 (L+1) k5) (br g hg);rw[(edsR_same D es).2.1]at h1;exact h1
     ·rcases dP.out with h1|h1
      ·exact .inl h1
      ·refine .inr ⟨_,h1,by omega,?_⟩;rw[set_size];exact(ef.out.lt _ h1).2
    have aM:=hid (RAft.chain aE.out cP.out bh);obtain⟨w6,dz⟩:∃ w6,w5.setCell ⟨Q,7,none⟩ (.slice a5 (L+1) k5)=w6:=⟨_,rfl⟩;rw[dz]at bh aM ⊢;obtain⟨T6,⟨x6,bi⟩,dI,dW⟩:=bh;have fl:=hid bi;have eQ:Hid (∀ D' W' V,Below w6.heap.size w6 V->RAft w V T6 Q (m+1) D' W'->RAft w W T Q (m+1) D' W'):=hid (fun D' W' V hV hh=>RAft.chain aE.out cP.out (RAft.chain dI dW (hh.under hV)));obtain⟨nf,dp⟩:∃ n,B.fates.length=n:=⟨_,rfl⟩;have dN:=hid dp;have fy:nf<=1048576:=by have:=bi.fates.len;omega
    have r6:=bi.row;unfold rdC at r6;rw[dp]at r6;obtain⟨af,aX⟩:∃ a,x6.af=a:=⟨_,rfl⟩;obtain⟨fX,b0⟩:∃ a,x6.cf=a:=⟨_,rfl⟩;have cF:=bi.fates;rw[aX]at cF;have f5:=hid cF;rw[aX,b0]at r6;obtain⟨-,-,-,-,-,-,-,-,d8,-,-⟩:=row10 r6;have D8:=hid d8;have eH:=(Array.getElem?_eq_some_iff.1 r6).1;have bJ:=hid bi.bel;clear aD dg cK bY cB ec av ac br dz bi dI dW dp r6 aX b0 cF hB f7 ff d5 d6 d7 df c4 c5 d8
    go_loopw [12] (fun s12 wr=>KfInv B.fates (L:Int) nf w6 s12 wr) (fun s12 _=>nf-(RowKit.intOf s12).toNat)
    case atStart=>exact⟨0,rfl,Nat.zero_le _,fun j f hj=>by omega,Below.refl _ _⟩
    case round =>
     obtain⟨k2,rfl,fM,bn,hb⟩:=hrel;have bk:=hid bn;have bc:=hid hb;have d8:=(hb.cell (p:=⟨Q,8,none⟩) eH).trans D8.out;clear bn hb;by_cases ab:k2<nf
     ·have db:(k2:Int)<nf:=by omega
      obtain⟨f,hf⟩:∃ f,B.fates[k2]?=some f:=⟨_,getElem?_eq_getElem (by rw[dN.out];exact ab)⟩;obtain⟨g,o,rfl,hg,y0,y1,y2,y3⟩:=farg_at f5.out (Below.trans bJ.out (bc.out.mono bJ.out.size)) hf
      have fh:Hid (f.at_=(L:Int)->fateD B=f):=hid (fun he=>by
       unfold fateD;rw[dM.out]
       exact fate_found bk.out hf he)
      have dc:Hid (f.at_≠(L:Int)->NoneTo B.fates (L:Int) (k2+1)):=hid (fun he j f' hj hf'=>by
       by_cases h:j<k2
       ·exact bk.out j f' h hf'
       ·have:j=k2:=by omega
        subst this;rw[hf]at hf';injection hf' with hf';rw[<- hf']
        exact he)
      obtain⟨fa,fw,fk,ft⟩:=f;simp only at y0 y1 y2 y3;clear hf ab hg;by_cases am:fa=(L:Int)
      ·have f8:(fa==(L:Int))=true:=by simpa using am
       have f4:(fa != (L:Int))=false:=by simpa using am
       have aG:=fh.out am;have hz:=dR.out;rw[aG]at hz;simp only at hz;clear am;by_cases h3:fw=3
       ·subst h3;have aW:Hid (Z=(crashD B fk ft,75)):=hid (by rw[hz,if_pos rfl]);have CC:=kcrash_any w wr T6 Q (m+1) B ⟨fa,3,fk,ft⟩ ⟨x6,fl.out.below bc.out⟩ di.out.fit hm;simp only at CC;have cU:=hid CC;clear CC hz aG;repeat (first|(go_at_call 177;refine cU.out.mono ?_;rintro r w9 ⟨rfl,dG⟩;simp only[];have f6:=hid dG;clear dG)|go_skip|go_guarded|go_step|go_upon)
        go_ret2;have aa:=aZ.out false;rw[aW.out]at aa ⊢;exact⟨⟨false,rfl,by rw[aa];intro h0;cases h0⟩,eQ.out _ _ _ bc.out f6.out⟩
       ·have fY:(fw==3)=false:=by simpa using h3
        by_cases h1:fw=1
        ·subst h1;have aW:Hid (Z=(B,70)):=hid (by rw[hz,if_neg h3,if_pos rfl]);clear hz aG;repeat (first|go_skip|go_guarded|go_step|go_upon)
         go_ret2;have aa:=aZ.out false;rw[aW.out]at aa ⊢;exact⟨⟨false,rfl,by rw[aa];intro h0;cases h0⟩,aM.out.later bc.out⟩
        ·have fS:(fw==1)=false:=by simpa using h1
         have aW:Hid (Z=(B,0)):=hid (by rw[hz,if_neg h3,if_neg h1]);have cL:=hid aG;obtain⟨b2,eO⟩:∃ b,(fw==2)=b:=⟨_,rfl⟩;have fg:=hid eO;have z8:=cell_regrown d8;have z1:=cell_regrown y1;clear hz aG h3 h1;repeat (first|go_skip|go_guarded|go_step|go_upon)
         go_quiet (fail);repeat (first|go_skip|go_guarded|go_step|go_upon)
         go_ret2;have aa:=aZ.out b2;rw[aW.out]at aa ⊢;simp only at aa;refine⟨⟨b2,rfl,?_⟩,aM.out.later (NA.below_drewN bc.out _)⟩;rw[aa,cL.out];intro _;rw[<- fg.out,Bool.eq_iff_iff];simp
      ·have f8:(fa==(L:Int))=false:=by simpa using am
       have f4:(fa != (L:Int))=true:=by simpa using am
       have fG:=hid (dc.out am);clear am;repeat (first|go_skip|go_guarded|go_step|go_upon)
       exact⟨⟨k2+1,by go_num,by omega,fG.out,bc.out⟩,by simp[RowKit.intOf];omega⟩
     ·have db:¬(k2:Int)<nf:=by omega
      have aG:fateD B=fateZ:=by
       unfold fateD;rw[dM.out];refine fate_none (fun j f hj hf=>bk.out j f (by have:=dN.out;omega) hf)
      have hz:=dR.out;rw[aG]at hz;have aW:Hid (Z=(B,0)):=hid hz;have cL:=hid aG;clear hz aG ab;repeat (first|go_skip|go_guarded|go_step|go_upon)
      go_ret2;have aa:=aZ.out false;rw[aW.out]at aa ⊢;simp only at aa;refine⟨⟨false,rfl,?_⟩,aM.out.later bc.out⟩;rw[aa,cL.out];intro _;rfl
end RK
end
end Go.Proofs.YtkmcjededpamnaaGreatDoor
