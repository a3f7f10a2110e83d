import Derived.Test.YtmohjalanhnhbaaGreatDoorMg14
import Derived.Test.YtmohjalanhnhbaaGreatDoorMg3
import Derived.Test.YtmohjalanhnhbaaGreatDoorRkCrash
import Derived.Test.YtmohjalanhnhbaaGreatDoorTreeLaw0
set_option linter.all false
set_option maxRecDepth 100000
set_option maxHeartbeats 25600000
namespace Go.Proofs.YtmohjalanhnhbaaGreatDoor
open Go.RowKit Go.Lib Go.BigFrame
namespace RK
open OM TP TM DP DM FP DG TG TR
def tickR (D:Dk):Dk:={ D with clock:=D.clock+1 }
def editR (D:Dk) (p:List UInt8) (v:List Nd):Dk:={ editD (tickR D) p v with clock:=D.clock }
def freshR (D:Dk) (F:List Nd):List Ino:=F.map (freshI (tickR D))
theorem editR_no {D:Dk} {p:List UInt8} {v:List Nd} (h:(putL (treeD D) p v).2≠0):editR D p v=D:=by
 unfold editR editD
 rw [if_neg (show ¬ (putL (treeD (tickR D)) p v).2=0 from h)]
 rfl
theorem editR_yes {D:Dk} (hv:V D) {p:List UInt8} {v:List Nd} (h:PutOk (treeD D) p v):editR D p v=chgR (inosR D (D.inos++freshR D (inE (outL (treeD D) p v) p))) (sortK (edK D (outL (treeD D) p v) p (outL (treeD D) p v).length) (outL (treeD D) p v).length):=by
 have h1:putL (treeD (tickR D)) p v=(outL (treeD D) p v,0):=put_of h
 unfold editR editD
 rw [h1,if_pos rfl,edK_names hv h]
 rfl
theorem in_all_len (t:List Nd) (p:List UInt8):(inE t p).length<=t.length:=List.length_filter_le _ _
theorem in_take_len (t:List Nd) (p:List UInt8) (k:Nat):(inE (t.take k) p).length<=(inE t p).length:=by
 have h:t=t.take k++t.drop k:=(List.take_append_drop k t).symm
 have h2:inE t p=inE (t.take k) p++inE (t.drop k) p:=by
  unfold inE
  rw [<- List.filter_append,List.take_append_drop]
 rw [h2,List.length_append]
 omega
structure KeAt (w W:World) (T:Nat->Prop) (Q m:Nat) (D:Dk) (t:List Nd) (p:List UInt8) (k:Nat) (tv s6:Value) (wr:World):Prop where
 disk:∃ T1,RS w wr T1 Q m (inosR D (D.inos++freshR D (inE (t.take k) p)))/\(∀ j,T1 j->T j∨W.heap.size<=j)/\(∀ g,tv.ownBlock=some g->¬ T1 g/\g≠Q)/\(∀ g,s6.ownBlock=some g->¬ T1 g/\g≠Q)/\¬ T1 W.heap.size
 out:Out (fun k=>T k∨k=Q) W wr
 own:wr.ownsRow W.heap.size 130 2 s6 (edK D t p k).length (resC (edK D t p k))
 nodes:wr.ownsRow W.heap.size 45 4 tv t.length (nodesC t)
theorem V.names_small {D:Dk} (h:V D):Small (treeD D):=fun n hn=>by
 have h1:=h.tree.path n hn
 have h2:=right_data (h.tree.right n hn)
 have h3:=((path_iff n.path).1 h1).1
 omega
theorem freshR_snoc (D:Dk) (F:List Nd) (y:Nd):freshR D (F++[y])=freshR D F++[freshI (tickR D) y]:=by unfold freshR;rw [List.map_append];rfl
theorem freshR_len (D:Dk) (F:List Nd):(freshR D F).length=F.length:=by unfold freshR;rw [List.length_map]
theorem rwithin_txt (A B:ByteArray) (a b:List UInt8) (ha:A.data.toList=a) (hb:B.data.toList=b) (la:a.length<=1048576) (lb:b.length<=1048576) (W:World):Calls Tryz.prog 100 #[.string A,.string B] W fun r W'=>r=.returned (.bool (NP.withinL a b))/\Below W.heap.size W W':=by
 subst ha hb
 exact R1.RO.rwithin_any A B W (by rw [Lib.size_eq];exact la) (by rw [Lib.size_eq];exact lb)
theorem ke_push {w W w2 Wz:World} {T2:Nat->Prop} {Q m b:Nat} {DF:Dk} {u6:Value} {L:List Nd} {e:Nd} {X:ByteArray} {kd:Int} (h:RS w w2 T2 Q m DF) (ho:w2.ownsRow W.heap.size 130 2 u6 L.length (resC L)) (hd:∀ g,u6.ownBlock=some g->¬ T2 g/\g≠Q) (hL:L.length<=1000) (hW:w.heap.size<=W.heap.size) (hW2:W.heap.size<=w2.heap.size)
  (hz:Below w2.heap.size w2 Wz) (hrow:Wz.heap[b]?=some (.cells #[.string X,.int .i64 kd] 130 (0,0))) (hX:txt e.path=.string X) (hk:e.kind=kd) :
  ∃ v' w8,(Builtin.append_ #[53,53] 53 #[u6,.slice (some ⟨b,0,none⟩) 1 1]).run Tryz.prog Wz=.ok v' w8/\w8.ownsRow W.heap.size 130 2 v' (L++[e]).length (resC (L++[e]))/\RS w w8 T2 Q m DF/\(∀ g,v'.ownBlock=some g->¬ T2 g/\g≠Q)/\Out (fun k=>u6.ownBlock=some k) w2 w8:=by
 obtain⟨i1,hi1,hy0,hy1,hy2⟩:=info_parts infoRE
 have hzs:=hz.size
 obtain⟨v',w8,hrun,hown,hgrow,-,hblk⟩:=run_append_own_at (P:=Tryz.prog) Wz W.heap.size 53 53 130 i1 _ 2 24 Tryz.underlying53 hi1 hy0 hy1 hy2 rfl (by decide) u6 L.length (resC L) (owns_below ho hz) ⟨b,0,none⟩ 1 1 (reC e) rfl (fun j u hu=>by
  have e1:(⟨b,0,none⟩:Addr).add j=⟨b,j,none⟩:=by simp [Addr.add];omega
  have e2:(#[.string X,.int .i64 kd]:Array Value)=(reC e).toArray:=by unfold reC;rw [hX,hk]
  rw [e1,cell_of_row _ _ j _ _ _ hrow,← hu,e2]
  simp) (re_one _) (by unfold maxLen;omega) (by omega) (by omega)
 have hout:Out (fun k=>u6.ownBlock=some k) w2 w8:=((Out.refl _ w2).thenBelow hz).grown hgrow (fun k hk _=>hk)
 obtain⟨hq,hlt⟩:=h.lts
 refine⟨v',w8,hrun,?_,h.out hout (fun k hk=>⟨(hd k hk).1,(hd k hk).2,Nat.le_trans hW (ho.lt k hk).1⟩),fun g hg=>?_,hout⟩
 ·rw [res_snoc,List.length_append,List.length_singleton]
  exact hown
 ·rcases hblk with h1|h1
  ·exact hd g (by rw [<- h1];exact hg)
  ·rw [hg] at h1
   injection h1 with h1
   exact⟨fun h3=>by have:=hlt g h3;omega,by omega⟩
theorem row3e {W:World} {b:Nat} {a0 a1 a2:Value} {t:TypeId} (h:W.heap[b]?=some (.cells #[a0,a1,a2] t (0,0))):W.cell? ⟨b,1,none⟩=some a1/\W.cell? ⟨b,2,none⟩=some a2 :=
 ⟨by rw [cell_of_row W b 1 _ _ _ h];rfl,by rw [cell_of_row W b 2 _ _ _ h];rfl⟩
theorem kedit_any (w W:World) (T:Nat->Prop) (Q m:Nat) (D:Dk) (at_:Int) (p:List UInt8) (vo:Option Addr) (vc:Nat) (v:List Nd) (h:RS w W T Q m D) (hv:V D) (hl:LayN W vo v) (hsm:Small v) (hvl:v.length<=maxLen) (hvc:v.length<=vc) (hp:p.length<=1048576) (hm:m<=1000) (hnum:Num m (editR D p v)) :
  Calls Tryz.prog 176 #[.pointer (some ⟨Q,0,none⟩),.agg #[.int .i64 at_,txt p,.slice vo v.length vc]] W fun r W'=>r=.returned (.tuple #[])/\RAft w W T Q m (editR D p v) W':=by
 obtain⟨i0,hi0,hz0,hz1,hz2⟩:=info_parts infoRI
 obtain⟨i1,hi1,hy0,hy1,hy2⟩:=info_parts infoRE
 obtain⟨S0,hS,hSd⟩:=txt_of p
 have HSd:=Lib.hid hSd
 have HSe:=Lib.hid hS
 have HR:=Lib.hid h
 have HV:=Lib.hid hv
 have HNum:=Lib.hid hnum
 have hltQ:=h.lts.1
 have HLt:=Lib.hid h.lts.2
 obtain⟨vn,hvn⟩:∃ n,v.length=n:=⟨_,rfl⟩
 have HVn:=Lib.hid hvn
 rw [hS,hvn]
 have b1:Below W.heap.size W (W.alloc (.cells #[.int .i64 at_,.string S0,.slice vo vn vc] 86)):=(Below.refl _ _).alloc (Nat.le_refl _) _
 have RB:=heap_alloc_new W (.cells #[.int .i64 at_,.string S0,.slice vo vn vc] 86)
 obtain⟨W1,hW1⟩:∃ W1,(W.alloc (.cells #[.int .i64 at_,.string S0,.slice vo vn vc] 86))=W1:=⟨_,rfl⟩
 have hW1s:W.heap.size<W1.heap.size:=by rw [<- hW1];simp
 rw [hW1] at b1 RB
 have B1:=Lib.hid b1
 have RB1:=Lib.hid RB
 have CT:Hid (∀ V,Below W.heap.size W V->Calls Tryz.prog 23 #[.pointer (some ⟨Q,0,none⟩)] V (TR.AtPost (treeD D) V)):=Lib.hid (fun V hV=>ktree_any w V T Q m D (h.below hV) hv.fit)
 have HPut:Hid (∀ V a c,Below W.heap.size W V->LayN V a (treeD D)->Calls Tryz.prog 208 #[.slice a (treeD D).length c,.string S0,.slice vo vn vc] V (PutPost (putL (treeD D) p v) V)):=Lib.hid (fun V a c hV hla=>by
  have:=rput_any a c (treeD D) p vo vc v V ⟨hla,hl.below hV,hv.names_small,hsm,by have:=hv.tree.len;unfold maxLen;omega,hvl,hvc,hp⟩
  rw [hS,hvn] at this
  exact this)
 have HTl:Hid ((treeD D).length<=1000):=Lib.hid hv.tree.len
 clear h hv hnum hl hsm hvl hvc hvn hS hSd b1 RB
 go_enter Tryz.func176,Tryz.ntmps176
 repeat (first|go_skip|go_guarded|go_step|go_upon)
 try rw [hW1]
 clear hW1
 obtain⟨q1,q2⟩:=row3e RB1.out
 refine wp_region_noPanic ?_
 with_reducible refine QT.region_mix (S:=fun w'=>w'.cell? ⟨W.heap.size,1,none⟩=some (.string S0)/\w'.cell? ⟨W.heap.size,2,none⟩=some (.slice vo vn vc)) [(true,0),(true,2),(true,3),(true,4),(true,5),(false,1),(false,6),(true,7),(true,8),(true,9),(true,10)] 11 (by kernel_rfl) (by kernel_rfl) ?_ ?_ ?_
 ·exact fun _ _ _ _ _ h=>h
 ·exact⟨q1,q2⟩
 intro _
 simp only [QT.pickM,List.filterMap_cons,List.filterMap_nil,List.getElem?_cons_succ,List.getElem?_cons_zero,Option.map_some,List.drop_succ_cons,List.drop_zero]
 iterate 5 (refine QT.wpMix_take _ (by rfl) (by intro w' hSw;obtain⟨y0,y1⟩:=hSw;go_simp;first|done|rfl) ?_;try simp only [Act.put,List.setIfInBounds_toArray,List.set_cons_zero,List.set_cons_succ])
 intro K' hK
 rw [if_pos (by rfl)]
 go_simp
 have bd:Below W.heap.size W W1.drew:=B1.out.drew
 refine (CT.out _ bd).mono ?_
 rintro r w2 ⟨u2,rfl,o2,b2⟩
 simp only []
 have B2:=Lib.hid (Below.trans bd (b2.mono bd.size))
 have rB2:=(b2.block W.heap.size (by exact hW1s)).trans RB1.out
 have RB2:=Lib.hid rB2
 refine hK.out _ _ (row3e rB2) ?_
 clear hK K'
 try simp only [Act.put,List.setIfInBounds_toArray,List.set_cons_zero,List.set_cons_succ]
 obtain⟨a2,c2,hu2,hla2⟩:=lay_own o2
 subst hu2
 have CP:=Lib.hid (HPut.out w2 a2 c2 B2.out hla2)
 intro K' hK
 rw [if_pos (by rfl)]
 go_simp
 refine CP.out.mono ?_
 rintro r w3 ⟨u3,rfl,o3,b3⟩
 simp only []
 have B3:=Lib.hid (Below.trans B2.out (b3.mono B2.out.size))
 have rB3:=(b3.block W.heap.size (by have:=(Array.getElem?_eq_some_iff.1 RB2.out).1;exact this)).trans RB2.out
 have RB3:=Lib.hid rB3
 refine hK.out _ _ (row3e rB3) ?_
 clear hK K'
 try simp only [Act.put,List.setIfInBounds_toArray,List.set_cons_zero,List.set_cons_succ]
 iterate 4 (refine QT.wpMix_take _ (by rfl) (by intro w' hSw;obtain⟨y0,y1⟩:=hSw;go_simp;first|done|rfl) ?_;try simp only [Act.put,List.setIfInBounds_toArray,List.set_cons_zero,List.set_cons_succ])
 refine QT.wpMix_nil ?_
 repeat (first|go_skip|go_guarded|go_step|go_upon)
 refine NoPanic.normal ?_
 have hpc:=put_cases (treeD D) p v
 obtain⟨t,ht⟩:∃ t,(putL (treeD D) p v).1=t:=⟨_,rfl⟩
 obtain⟨er,her⟩:∃ e:Nat,(putL (treeD D) p v).2=e:=⟨_,rfl⟩
 rw [ht] at o3
 rw [her]
 rcases Nat.eq_zero_or_pos er with hz|hz
 ·subst hz
  rw [show ((0:Nat):Int)=0 from rfl]
  have hok:PutOk (treeD D) p v/\t=outL (treeD D) p v:=by
   rcases hpc with ⟨h1,h2⟩|⟨e,h2⟩
   ·exact⟨h1,by rw [<- ht,h2]⟩
   ·rw [h2] at her
    cases her
  have HOk:=Lib.hid hok
  have hEd:=editR_yes HV.out hok.1
  rw [<- hok.2] at hEd
  have HEd:=Lib.hid hEd
  have hTr:=out_tree hok.1
  rw [<- hok.2] at hTr
  have HTr:=Lib.hid hTr
  obtain⟨n,hn⟩:∃ n,t.length=n:=⟨_,rfl⟩
  have hnl:n<=1000:=by have:=hTr.len;omega
  have HN:=Lib.hid hn
  have HI0:Hid (KeAt w W T Q m D t p 0 u3 (.slice none 0 0) w3):=Lib.hid ⟨⟨T,by
   have h1:=HR.out.below B3.out
   have e1:inosR D (D.inos++freshR D (inE (t.take 0) p))=D:=by unfold inosR freshR inE;simp
   rw [e1]
   exact h1,fun _ h=>.inl h,fun g hg=>by
    have h1:=(o3.lt g hg).1
    have h2:=B2.out.size
    exact⟨fun h3=>by have:=HLt.out g h3;omega,by omega⟩,(fun g hg=>by cases hg),fun h3=>by have:=HLt.out _ h3;omega⟩,(Out.of_below B3.out).mono (fun k hk h=>absurd hk (by omega)),World.ownsRow_nil _ _ _ _,owns_base o3 _ B2.out.size⟩
  obtain⟨a3,cN,hu3,-⟩:=lay_own o3
  rw [hn] at hu3
  subst hu3
  have HNumK:Hid (∀ j,Num m (inosR D (D.inos++freshR D (inE (t.take j) p)))):=Lib.hid (fun j=>by
   obtain⟨xx,hxx⟩:=HR.out
   have h1:=hxx.num
   have h2:=HNum.out.inos
   rw [hEd] at h2
   have h3:(chgR (inosR D (D.inos++freshR D (inE t p))) (sortK (edK D t p t.length) t.length)).inos.length=D.inos.length+(inE t p).length:=by
    show (D.inos++freshR D (inE t p)).length=_
    rw [List.length_append,freshR_len]
   have h4:=in_take_len t p j
   exact⟨h1.clock,h1.trace,h1.later,by show (D.inos++freshR D (inE (t.take j) p)).length<=_;rw [List.length_append,freshR_len];omega,h1.edits,h1.path,h1.long⟩)
  have HwW:Hid (w.heap.size<=W.heap.size):=Lib.hid (by obtain⟨xx,hxx⟩:=HR.out;exact hxx.bel.size)
  clear hpc ht her o3 b3 hok hEd hTr hn o2 b2 hla2 bd rB2 rB3 q1 q2
  repeat (first|go_skip|go_guarded|go_step|go_upon)
  go_loopw [6,7] (fun s6 s7 wr=>∃ k:Nat,s7=.int .i64 k/\k<=n/\KeAt w W T Q m D t p k (.slice a3 n cN) s6 wr/\wr.heap[W.heap.size]?=some (.cells #[.int .i64 at_,.string S0,.slice vo vn vc] 86 (0,0))) (fun _ s7 _=>n-(Go.RowKit.intOf s7).toNat)
  case atStart=>exact⟨0,rfl,Nat.zero_le _,HI0.out,RB3.out⟩
  case round =>
   obtain⟨k,rfl,hk,hat,hbox⟩:=hrel
   have HAt:=Lib.hid hat
   have HBox:=Lib.hid hbox
   by_cases hlt:k<n
   ·have hkz:(k:Int)<n:=by omega
    obtain⟨y,hy⟩:∃ y,t[k]?=some y:=⟨_,List.getElem?_eq_getElem (by rw [HN.out];exact hlt)⟩
    have hmem:=List.mem_of_getElem? hy
    have hyp:=HTr.out.path y hmem
    obtain⟨⟨T1,⟨x1,hx1⟩,hs1,ht1,hl1,hnb1⟩,hout,hown,hnod⟩:=hat
    have hno:=hnod
    rw [HN.out] at hno
    obtain⟨ao',c',e1,hln⟩:=lay_own hnod
    rw [HN.out] at e1
    injection e1 with e1 _ e3
    subst e1 e3
    obtain⟨g,o,rfl,hg,hc⟩:=hln (by rw [HN.out];omega)
    obtain⟨d0,d1,d2,d3⟩:=hc k y hy
    obtain⟨Y,hY,hYd⟩:=txt_of y.path
    obtain⟨Zs,hZ,-⟩:=txt_of y.data
    obtain⟨ky,hky⟩:∃ z,y.kind=z:=⟨_,rfl⟩
    obtain⟨my,hmy⟩:∃ z,y.mode=z:=⟨_,rfl⟩
    rw [hY] at d0
    rw [hky] at d1
    rw [hZ] at d2
    rw [hmy] at d3
    have b1:=(row3e hbox).1
    obtain⟨F,hF⟩:∃ F,inE (t.take k) p=F:=⟨_,rfl⟩
    have hFl:F.length<=1000:=by rw [<- hF];have h1:=in_all_len (t.take k) p;rw [List.length_take] at h1;omega
    rw [hF] at hx1
    have hWb:=(Array.getElem?_eq_some_iff.1 hbox).1
    obtain⟨bw,hbw⟩:∃ b,NP.withinL y.path p=b:=⟨_,rfl⟩
    have CW:Hid (∀ V,Calls Tryz.prog 100 #[.string Y,.string S0] V fun r W'=>r=.returned (.bool bw)/\Below V.heap.size V W'):=Lib.hid (fun V=>by
     rw [<- hbw]
     exact rwithin_txt Y S0 y.path p hYd HSd.out (by have:=((path_iff y.path).1 hyp).1;omega) hp V)
    have HX1:=Lib.hid hx1
    have HS1:=Lib.hid hs1
    have HT1:=Lib.hid ht1
    have HL1:=Lib.hid hl1
    have HNb1:=Lib.hid hnb1
    have HOut:=Lib.hid hout
    have HOwn:=Lib.hid hown
    have HNod:=Lib.hid hno
    have HY:=Lib.hid hy
    have HYe:=Lib.hid hY
    have HYd:=Lib.hid hYd
    have HZe:=Lib.hid hZ
    have HF:=Lib.hid hF
    have HBw:=Lib.hid hbw
    have HKy:=Lib.hid hky
    have HMy:=Lib.hid hmy
    have HYp:=Lib.hid hyp
    have D0:=Lib.hid d0
    have D1:=Lib.hid d1
    have D2:=Lib.hid d2
    have D3:=Lib.hid d3
    have HG:=Lib.hid hg
    have HWb:=Lib.hid hWb
    clear hx1 hs1 ht1 hl1 hnb1 hout hown hnod hno hln hc hY hYd hZ hky hmy hF hbw hyp hmem hy hlt HAt
    repeat (first|go_skip|go_guarded|go_step|go_upon)
    refine wp_region_noPanic ?_
    with_reducible refine QT.region_mix (S:=fun w'=>w'.cell? ⟨g,o+k*4,none⟩=some (.string Y)/\w'.cell? ⟨W.heap.size,1,none⟩=some (.string S0)) [(true,0),(true,1),(true,2),(true,3),(true,4),(true,5),(true,6)] 7 (by kernel_rfl) (by kernel_rfl) ?_ ?_ ?_
    ·exact fun _ _ _ _ _ h=>h
    ·exact⟨d0,b1⟩
    intro _
    simp only [QT.pickM,List.filterMap_cons,List.filterMap_nil,List.getElem?_cons_succ,List.getElem?_cons_zero,Option.map_some,List.drop_succ_cons,List.drop_zero]
    iterate 7 (refine QT.wpMix_take _ (by rfl) (by intro w' hSw;obtain⟨y0,y1⟩:=hSw;go_simp;first|done|rfl) ?_;try simp only [Act.put,List.setIfInBounds_toArray,List.set_cons_zero,List.set_cons_succ])
    refine QT.wpMix_nil ?_
    clear d0 d1 d2 d3 b1 hWb hbox hg
    repeat (first|(go_at_call 100;fail)|go_skip|go_guarded|go_step|go_upon)
    refine (CW.out _).mono ?_
    rintro r w4 ⟨rfl,hb4⟩
    simp only []
    have B4:Hid (Below wr.heap.size wr w4):=Lib.hid (((Below.refl _ _).drew).trans hb4)
    clear hb4
    repeat (first|go_skip|go_guarded|go_step|go_upon)
    refine NoPanic.normal ?_
    have X4:=Lib.hid (HX1.out.below B4.out)
    have Box4:=Lib.hid ((B4.out.block _ HWb.out).trans HBox.out)
    have e0:=(B4.out.cell (p:=⟨g,o+k*4,none⟩) HG.out).trans D0.out
    have e1:=(B4.out.cell (p:=⟨g,o+k*4+1,none⟩) HG.out).trans D1.out
    have e2:=(B4.out.cell (p:=⟨g,o+k*4+2,none⟩) HG.out).trans D2.out
    have e3:=(B4.out.cell (p:=⟨g,o+k*4+3,none⟩) HG.out).trans D3.out
    have O4:=Lib.hid (owns_below HOwn.out B4.out)
    have N4:=Lib.hid (owns_below HNod.out B4.out)
    have hs4:=B4.out.size
    have hWs:=HOut.out.size
    have hlt4:g<w4.heap.size:=Nat.lt_of_lt_of_le HG.out hs4
    have hbx4:W.heap.size<w4.heap.size:=Nat.lt_of_lt_of_le HWb.out hs4
    have hckm:D.clock<=1000:=by have h1:D.clock<=m:=X4.out.num.clock;omega
    have hKl:=edK_len (D:=D) (t:=t) (p:=p) (k:=k) (by rw [HN.out];omega)
    cases bw with
    | true =>
     have HIn:Hid (inE (t.take (k+1)) p=F++[y]):=Lib.hid (by rw [in_succ_yes HY.out HBw.out,HF.out])
     have HEe:Hid (edE D t p k y=en y.path ((D.inos.length+1+F.length:Nat):Int)):=Lib.hid (by unfold edE;rw [if_pos HBw.out,HF.out])
     obtain⟨ni,hni⟩:∃ n,D.inos.length+F.length=n:=⟨_,rfl⟩
     have hDl:(inosR D (D.inos++freshR D F)).inos.length=ni:=by show (D.inos++freshR D F).length=_;rw [List.length_append,freshR_len,hni]
     have hiv:=X4.out.inos
     rw [hDl] at hiv
     obtain⟨vi,hvi⟩:∃ v,x1.vi=v:=⟨_,rfl⟩
     rw [hvi] at hiv
     obtain⟨ai,ci,hvi2,-⟩:=owns_view hiv
     subst hvi2
     obtain⟨ck,hck⟩:∃ n,D.clock=n:=⟨_,rfl⟩
     rw [hck] at hckm
     have hcw:IntKind.i64.wrap ((ck:Int)+1)=((ck:Int)+1):=by rw [IntKind.wrap_i64];omega
     have rQ:w4.heap[Q]?=some (.cells #[.slice x1.an D.names.length x1.cn,.slice x1.as_ D.safe.length x1.cs,x1.vl,.slice ai ni ci,.bool D.off,.int .i64 (D.trace.length:Nat),.int .i64 (ck:Nat),x1.vt,.slice x1.af D.fates.length x1.cf,.slice x1.ae D.edits.length x1.ce] 57 (0,0)):=by
      have h:=X4.out.row
      unfold rdC at h
      rw [hvi] at h
      rw [<- hck]
      exact h
     obtain⟨-,-,-,c3,-,-,c6,-,-,-,-⟩:=row10 rQ
     have hQ4:=(Array.getElem?_eq_some_iff.1 rQ).1
     have HRQ:=Lib.hid rQ
     have hnum1:=HNumK.out (k+1)
     rw [HIn.out] at hnum1
     have hbn1:=num_inos hnum1 hm
     rw [show (inosR D (D.inos++freshR D (F++[y]))).inos.length=ni+1 by show (D.inos++freshR D (F++[y])).length=_;rw [List.length_append,freshR_len,List.length_append,← hni];rfl] at hbn1
     have HNum1:=Lib.hid hnum1
     have HOi:=Lib.hid hiv
     have HVi:=Lib.hid hvi
     have HDl:=Lib.hid hDl
     have HNi:=Lib.hid hni
     have HCk:=Lib.hid hck
     have HKl:=Lib.hid hKl
     obtain⟨ii,hii⟩:∃ i,freshI (tickR D) y=i:=⟨_,rfl⟩
     have HII:=Lib.hid hii
     have hri:(#[.int .i64 ky,.int .i64 my,.int .i64 ((ck:Int)+1),.string Zs,.bool false]:Array Value)=(riC ii).toArray:=by
      rw [<- hii,← HKy.out,← HMy.out,← HZe.out,← hck]
      rfl
     have HRi:=Lib.hid hri
     clear rQ hnum1 hiv hvi hDl hni hck hKl hii hri
     repeat (first|go_skip|go_guarded|go_step|go_upon)
     refine wp_region_noPanic ?_
     with_reducible refine QT.region_mix (S:=fun w'=>w'.cell? ⟨Q,3,none⟩=some (.slice ai ni ci)/\w'.cell? ⟨Q,6,none⟩=some (.int .i64 (ck:Nat))/\w'.cell? ⟨g,o+k*4+1,none⟩=some (.int .i64 ky)/\w'.cell? ⟨g,o+k*4+2,none⟩=some (.string Zs)/\w'.cell? ⟨g,o+k*4+3,none⟩=some (.int .i64 my)) [(true,0),(true,1),(true,2),(true,3),(true,4),(true,5),(true,6),(true,7),(true,8),(true,9),(true,10),(true,11),(true,12),(true,13),(true,14),(true,15),(true,16),(true,17),(true,18),(true,19),(true,20),(true,21),(true,22),(true,23),(true,24),(true,25),(false,26),(false,27)] 28 (by kernel_rfl) (by kernel_rfl) ?_ ?_ ?_
     ·exact fun _ _ _ _ _ h=>h
     ·exact⟨c3,c6,e1,e2,e3⟩
     intro _
     simp only [QT.pickM,List.filterMap_cons,List.filterMap_nil,List.getElem?_cons_succ,List.getElem?_cons_zero,Option.map_some,List.drop_succ_cons,List.drop_zero]
     iterate 24 (refine QT.wpMix_take _ (by rfl) (by intro w' hSw;obtain⟨y0,y1,y2,y3,y4⟩:=hSw;go_simp;first|done|rfl) ?_;try simp only [Act.put,List.setIfInBounds_toArray,List.set_cons_zero,List.set_cons_succ])
     refine QT.wpMix_take (.int .i64 ((ck:Int)+1)) (by rfl) (by intro w' hSw;go_simp;first|done|rfl|(simp [hcw])) ?_
     try simp only [Act.put,List.setIfInBounds_toArray,List.set_cons_zero,List.set_cons_succ]
     refine QT.wpMix_take _ (by rfl) (by intro w' hSw;go_simp;first|done|rfl) ?_
     try simp only [Act.put,List.setIfInBounds_toArray,List.set_cons_zero,List.set_cons_succ]
     intro K' hK
     rw [if_pos (by rfl)]
     go_simp
     have bA:Below w4.heap.size w4 (w4.alloc (.cells #[.int .i64 ky,.int .i64 my,.int .i64 ((ck:Int)+1),.string Zs,.bool false] 128)).drew:=((Below.refl _ _).alloc (Nat.le_refl _) _).drew
     have rA:=heap_alloc_new w4 (.cells #[.int .i64 ky,.int .i64 my,.int .i64 ((ck:Int)+1),.string Zs,.bool false] 128)
     refine hK.out _ _ ⟨(bA.cell (p:=⟨Q,3,none⟩) hQ4).trans c3,(bA.cell (p:=⟨Q,6,none⟩) hQ4).trans c6,(bA.cell (p:=⟨g,o+k*4+1,none⟩) hlt4).trans e1,(bA.cell (p:=⟨g,o+k*4+2,none⟩) hlt4).trans e2,(bA.cell (p:=⟨g,o+k*4+3,none⟩) hlt4).trans e3⟩ ?_
     clear hK K'
     try simp only [Act.put,List.setIfInBounds_toArray,List.set_cons_zero,List.set_cons_succ]
     have rA2:(w4.alloc (.cells #[.int .i64 ky,.int .i64 my,.int .i64 ((ck:Int)+1),.string Zs,.bool false] 128)).drew.heap[w4.heap.size]?=some (.cells #[.int .i64 ky,.int .i64 my,.int .i64 ((ck:Int)+1),.string Zs,.bool false] 128 (0,0)):=rA
     have BA:=Lib.hid bA
     have RA:=Lib.hid rA2
     clear bA rA rA2
     generalize (w4.alloc (.cells #[.int .i64 ky,.int .i64 my,.int .i64 ((ck:Int)+1),.string Zs,.bool false] 128)).drew=WA at BA RA ⊢
     obtain⟨v',w',hrun,hown',hgrow',-,hblk'⟩:=run_append_own_at (P:=Tryz.prog) WA 0 55 55 128 i0 _ 5 48 Tryz.underlying55 hi0 hz0 hz1 hz2 rfl (by decide) (.slice ai ni ci) ni (risC (inosR D (D.inos++freshR D F)).inos) (owns_below HOi.out BA.out) ⟨w4.heap.size,0,none⟩ 1 1 (riC ii) rfl (fun j u hu=>by
      have e1:(⟨w4.heap.size,0,none⟩:Addr).add j=⟨w4.heap.size,j,none⟩:=by simp [Addr.add];omega
      rw [e1,cell_of_row _ _ j _ _ _ RA.out,← hu,HRi.out]
      simp) (ri_one ii) (by unfold maxLen;omega) hbn1 (Nat.zero_le _)
     intro K' hK
     refine step_app_eq rfl (.tmp 38) (.tmp 60) 55 55 rfl (.slice ai ni ci) (.slice (some ⟨w4.heap.size,0,none⟩) 1 1) rfl rfl hrun ?_
     have hnQ:(Value.slice ai ni ci).ownBlock≠some Q:=fun e=>X4.out.np (X4.out.iin Q (by rw [HVi.out];exact e))
     have hng:(Value.slice ai ni ci).ownBlock≠some g:=fun e=>(HT1.out g rfl).1 (X4.out.iin g (by rw [HVi.out];exact e))
     have hAs:=BA.out.size
     have hQA:Q<WA.heap.size:=by omega
     have hgA:g<WA.heap.size:=by omega
     have keep:∀ (b j:Nat) (u:Value),b<w4.heap.size->(Value.slice ai ni ci).ownBlock≠some b->w4.cell? ⟨b,j,none⟩=some u->w'.cell? ⟨b,j,none⟩=some u:=fun b j u hb hn hc=>(World.cell?_of_block (a:=⟨b,j,none⟩) ((hgrow'.block b (by omega) (fun e=>hn e.symm)).trans (BA.out.block b hb))).trans hc
     refine hK.out _ _ ⟨keep _ _ _ hQ4 hnQ c3,keep _ _ _ hQ4 hnQ c6,keep _ _ _ hlt4 hng e1,keep _ _ _ hlt4 hng e2,keep _ _ _ hlt4 hng e3⟩ ?_
     clear hK K'
     refine QT.wpMix_nil ?_
     try simp only [Act.put,List.setIfInBounds_toArray,List.set_cons_zero,List.set_cons_succ]
     obtain⟨a8,c8,hv8,-⟩:=owns_view hown'
     subst hv8
     have rowQ:=(hgrow'.block Q hQA (fun e=>hnQ e.symm)).trans ((BA.out.block Q hQ4).trans HRQ.out)
     have HRowQ:=Lib.hid rowQ
     obtain⟨-,-,-,z3,-,-,-,-,-,-,zf⟩:=row10 rowQ
     have HO8:=Lib.hid hown'
     have HG8:=Lib.hid hgrow'
     have HBk:=Lib.hid hblk'
     have HNQ:=Lib.hid hnQ
     clear hrun hown' hgrow' hblk' keep rowQ hnQ hng c3 c6 e1 e2 e3
     repeat (first|go_skip|go_guarded|go_step|go_upon)
     refine NoPanic.normal ?_
     have hlt8:∀ g,(Value.slice a8 (ni+1) c8).ownBlock=some g->g≠Q:=by
      intro g hg e
      subst e
      rcases HBk.out with h1|h1
      ·rw [h1] at hg
       exact HNQ.out hg
      ·rw [h1] at hg
       injection hg with hg
       omega
     obtain⟨T2,hx2,hs2,ho2⟩:∃ T',RX w T' (w'.setCell ⟨Q,3,none⟩ (.slice a8 (ni+1) c8)) Q m (inosR D (D.inos++freshR D (F++[y]))) { x1 with vi:=.slice a8 (ni+1) c8 }/\(∀ k,T' k->T1 k∨w4.heap.size<=k)/\Out (fun k=>T1 k∨k=Q) w4 (w'.setCell ⟨Q,3,none⟩ (.slice a8 (ni+1) c8)):=by
      have eI:D.inos++freshR D (F++[y])=(D.inos++freshR D F)++[ii]:=by rw [freshR_snoc,HII.out,List.append_assoc]
      rw [eI]
      refine X4.out.growInos (I:=(D.inos++freshR D F)++[ii]) (v:=.slice a8 (ni+1) c8) ((((Out.refl _ w4).thenBelow BA.out).grown HG8.out (fun k hk _=>.inr (by rw [HVi.out];exact hk))).setCell (p:=⟨Q,3,none⟩) (fun _=>.inl rfl) _) ?_ ?_ ?_ ?_
      ·rw [row_set (j:=3) HRowQ.out (.slice a8 (ni+1) c8)]
       unfold rdC inosR
       rw [<- HCk.out]
       rfl
      ·have h1:=own_same HO8.out fun g hg=>set_other w' Q 3 g (.slice a8 (ni+1) c8) (hlt8 g hg)
       have hl:(D.inos++freshR D F).length=ni:=HDl.out
       rw [ris_snoc,List.length_append,hl]
       exact h1
      ·rcases HBk.out with h1|h1
       ·exact .inl (by rw [HVi.out];exact h1)
       ·refine .inr ⟨WA.heap.size,h1,BA.out.size,?_⟩
        rw [set_size]
        exact (HO8.out.lt _ h1).2
      ·have h1:=HNum1.out
       rw [eI] at h1
       exact h1
     generalize w'.setCell ⟨Q,3,none⟩ (.slice a8 (ni+1) c8)=W2 at hx2 ho2 ⊢
     clear hlt8 HO8 HG8 HBk HNQ HRowQ z3 zf HOi HRQ HNum1 RA BA hbn1 hAs hQA hgA
     have X2:=Lib.hid hx2
     have S2:=Lib.hid hs2
     have U2:=Lib.hid ho2
     have r2:W2.heap[Q]?=some (.cells #[.slice x1.an D.names.length x1.cn,.slice x1.as_ D.safe.length x1.cs,x1.vl,.slice a8 (ni+1) c8,.bool D.off,.int .i64 (D.trace.length:Nat),.int .i64 (D.clock:Nat),x1.vt,.slice x1.af D.fates.length x1.cf,.slice x1.ae D.edits.length x1.ce] 57 (0,0)):=by
      have h:=hx2.row
      unfold rdC at h
      exact h
     obtain⟨-,-,-,c3,-⟩:=row10 r2
     have hz2:=ho2.size
     have kg:=ho2.block g hlt4 (fun e=>by
      have h1:=HT1.out g rfl
      rcases e with e|e
      ·exact h1.1 e
      ·exact h1.2 e)
     have d0:W2.cell? ⟨g,o+k*4,none⟩=some (.string Y):=(World.cell?_of_block (a:=⟨g,o+k*4,none⟩) kg).trans ((B4.out.cell (p:=⟨g,o+k*4,none⟩) HG.out).trans D0.out)
     have Box2:Hid (W2.heap[W.heap.size]?=some (.cells #[.int .i64 at_,.string S0,.slice vo vn vc] 86 (0,0))):=Lib.hid ((ho2.block _ hbx4 (fun e=>by
      rcases e with e|e
      ·exact HNb1.out e
      ·omega)).trans Box4.out)
     have O2:Hid (W2.ownsRow W.heap.size 130 2 u6 (edK D t p k).length (resC (edK D t p k))):=Lib.hid (own_same O4.out fun g' hg'=>ho2.block g' (O4.out.lt g' hg').2 (fun e=>by
      have h1:=HL1.out g' hg'
      rcases e with e|e
      ·exact h1.1 e
      ·exact h1.2 e))
     have N2:Hid (W2.ownsRow W.heap.size 45 4 (.slice (some ⟨g,o,none⟩) n cN) n (nodesC t)):=Lib.hid (own_same N4.out fun g' hg'=>ho2.block g' (N4.out.lt g' hg').2 (fun e=>by
      have h1:=HT1.out g' hg'
      rcases e with e|e
      ·exact h1.1 e
      ·exact h1.2 e))
     have hQ2:=(Array.getElem?_eq_some_iff.1 r2).1
     have hg2:g<W2.heap.size:=by omega
     clear hx2 hs2 ho2 r2 kg e0
     repeat (first|go_skip|go_guarded|go_step|go_upon)
     refine wp_region_noPanic ?_
     with_reducible refine QT.region_mix (S:=fun w'=>w'.cell? ⟨Q,3,none⟩=some (.slice a8 (ni+1) c8)/\w'.cell? ⟨g,o+k*4,none⟩=some (.string Y)) [(true,0),(true,1),(true,2),(true,3),(true,4),(true,5),(true,6),(true,7),(true,8),(true,9),(true,10),(true,11),(false,12)] 13 (by kernel_rfl) (by kernel_rfl) ?_ ?_ ?_
     ·exact fun _ _ _ _ _ h=>h
     ·exact⟨c3,d0⟩
     intro _
     simp only [QT.pickM,List.filterMap_cons,List.filterMap_nil,List.getElem?_cons_succ,List.getElem?_cons_zero,Option.map_some,List.drop_succ_cons,List.drop_zero]
     iterate 12 (refine QT.wpMix_take _ (by rfl) (by intro w' hSw;obtain⟨y0,y1⟩:=hSw;go_simp;first|done|rfl) ?_;try simp only [Act.put,List.setIfInBounds_toArray,List.set_cons_zero,List.set_cons_succ])
     intro K' hK
     rw [if_pos (by rfl)]
     go_simp
     have bz:Below W2.heap.size W2 (W2.alloc (.cells #[.string Y,.int .i64 ((ni:Int)+1)] 130)).drew:=((Below.refl _ _).alloc (Nat.le_refl _) _).drew
     have rz:(W2.alloc (.cells #[.string Y,.int .i64 ((ni:Int)+1)] 130)).drew.heap[W2.heap.size]?=some (.cells #[.string Y,.int .i64 ((ni:Int)+1)] 130 (0,0)):=heap_alloc_new W2 _
     refine hK.out _ _ ⟨(bz.cell (p:=⟨Q,3,none⟩) hQ2).trans c3,(bz.cell (p:=⟨g,o+k*4,none⟩) hg2).trans d0⟩ ?_
     clear hK K'
     refine QT.wpMix_nil ?_
     try simp only [Act.put,List.setIfInBounds_toArray,List.set_cons_zero,List.set_cons_succ]
     obtain⟨v9,w9,hrun,hown9,hrs9,hd9,hout9⟩:=ke_push (L:=edK D t p k) (e:=edE D t p k y) ⟨_,X2.out⟩ O2.out (fun g' hg'=>⟨fun h=>by
      rcases S2.out g' h with h1|h1
      ·exact (HL1.out g' hg').1 h1
      ·have:=(O4.out.lt g' hg').2;omega,(HL1.out g' hg').2⟩) (by rw [HKl.out];omega) HwW.out (by omega) bz rz (by rw [HEe.out];exact HYe.out) (by rw [HEe.out];show ((D.inos.length+1+F.length:Nat):Int)=_;have:=HNi.out;omega)
     have HO9:=Lib.hid hown9
     have HR9:=Lib.hid hrs9
     have HD9:=Lib.hid hd9
     have HU9:=Lib.hid hout9
     clear hown9 hrs9 hd9 hout9 bz rz c3 d0
     repeat (first|(at_builtin;refine wpList_app_eq rfl (.tmp 64) (.tmp 76) 53 53 rfl _ _ rfl rfl hrun ?_)|go_skip|go_guarded|go_step|go_upon)
     refine NoPanic.normal ?_
     repeat (first|go_skip|go_guarded|go_step|go_upon)
     refine⟨⟨k+1,by go_num,by omega,⟨⟨T2,?_,fun j hj=>?_,fun g' hg'=>?_,HD9.out,fun h=>?_⟩,?_,?_,?_⟩,?_⟩,by simp [Go.RowKit.intOf];omega⟩
     ·rw [HIn.out]
      exact HR9.out
     ·rcases S2.out j hj with h1|h1
      ·exact HS1.out j h1
      ·exact .inr (by omega)
     ·refine⟨fun h=>?_,(HT1.out g' hg').2⟩
      rcases S2.out g' h with h1|h1
      ·exact (HT1.out g' hg').1 h1
      ·have:=(N4.out.lt g' hg').2;omega
     ·rcases S2.out _ h with h1|h1
      ·exact HNb1.out h1
      ·omega
     ·have u1:=HOut.out.thenBelow B4.out
      refine (u1.then U2.out (fun j hj h=>?_)).then HU9.out (fun j hj h=>?_)
      ·rcases h with h|h
       ·rcases HS1.out j h with h1|h1
        ·exact .inl h1
        ·omega
       ·exact .inr h
      ·have:=(O2.out.lt j h).1;omega
     ·rw [edK_succ HY.out]
      exact HO9.out
     ·rw [HN.out]
      exact own_same N2.out fun g' hg'=>HU9.out.block g' (N2.out.lt g' hg').2 (fun e=>(own_type N2.out g' hg').ne (own_type O2.out g' e) (by decide) rfl)
     ·exact (HU9.out.block _ (by omega) (fun e=>(own_type O2.out _ e).ne ⟨_,_,Box2.out⟩ (by decide) rfl)).trans Box2.out
    | false =>
     have HIn:Hid (inE (t.take (k+1)) p=F):=Lib.hid (by rw [in_succ_no HY.out HBw.out,HF.out])
     have HEe:Hid (edE D t p k y=en y.path (inoN D.names y.path)):=Lib.hid (by unfold edE;rw [if_neg (by rw [HBw.out];exact Bool.false_ne_true)])
     have hmemD:∃ e∈D.names,e.path=y.path:=by
      have h1:=List.mem_of_getElem? HY.out
      rw [HOk.out.2] at h1
      rcases (mem_out (treeD D) p v y).1 h1 with ⟨h2,_⟩|⟨mm,hm2,h2⟩
      ·obtain⟨e,he,h3⟩:=List.mem_map.1 h2
       exact⟨e,he,by rw [<- h3];rfl⟩
      ·exfalso
       have h3:=place_within (path_ne HOk.out.1.path) (HOk.out.1.all mm hm2)
       rw [h2,HBw.out] at h3
       cases h3
     obtain⟨e0',he0,hep0⟩:=hmemD
     have hnl0:0<D.names.length:=List.length_pos_of_mem he0
     obtain⟨g0,o0,han,hg0,_,_,hc0⟩:=X4.out.names (show 0<(inosR D (D.inos++freshR D F)).names.length from hnl0)
     have hc0:∀ (j:Nat) (e:Nd),D.names[j]?=some e->w4.cell? ⟨g0,o0+j*2,none⟩=some (txt e.path)/\w4.cell? ⟨g0,o0+j*2+1,none⟩=some (.int .i64 e.kind):=fun j e he=>⟨(hc0 j e he).p,(hc0 j e he).i⟩
     obtain⟨NN,hNN⟩:∃ n,D.names.length=n:=⟨_,rfl⟩
     have rQ:w4.heap[Q]?=some (.cells #[.slice (some ⟨g0,o0,none⟩) NN x1.cn,.slice x1.as_ D.safe.length x1.cs,x1.vl,x1.vi,.bool D.off,.int .i64 (D.trace.length:Nat),.int .i64 (D.clock:Nat),x1.vt,.slice x1.af D.fates.length x1.cf,.slice x1.ae D.edits.length x1.ce] 57 (0,0)):=by
      have h:=X4.out.row
      unfold rdC at h
      rw [han] at h
      rw [<- hNN]
      exact h
     obtain⟨c0,-⟩:=row10 rQ
     have hQ4:=(Array.getElem?_eq_some_iff.1 rQ).1
     have hNl:NN<=1000:=by have:=HV.out.names.len;omega
     have CF:Hid (∀ V,Below w4.heap.size w4 V->Calls Tryz.prog 134 #[.pointer (some ⟨Q,0,none⟩),.string Y] V fun r W'=>∃ (z:Nat) (e:Nd),r=.returned (.int .i64 z)/\D.names[z]?=some e/\e.path=y.path/\z<NN/\Below V.heap.size V W'):=Lib.hid (fun V hV=>by
      have h:=kfind_any w V T1 Q m (inosR D (D.inos++freshR D F)) y.path ⟨x1,X4.out.below hV⟩ (by show D.names.length<=_;omega)
      rw [HYe.out] at h
      refine h.mono ?_
      rintro r W' ⟨z,rfl,hs,hb⟩
      rcases hs with ⟨kk,nn,rfl,h1,h2,_⟩|⟨_,h1⟩
      ·exact⟨kk,nn,rfl,h1,h2,by have:=(List.getElem?_eq_some_iff.1 h1).1;have h3:kk<D.names.length:=this;omega,hb⟩
      ·exact absurd hep0 (h1 e0' he0))
     have HC0:=Lib.hid hc0
     have HNN:=Lib.hid hNN
     clear rQ he0 hep0 hnl0 han hNN
     repeat (first|go_skip|go_guarded|go_step|go_upon)
     refine wp_region_noPanic ?_
     with_reducible refine QT.region_mix (S:=fun w'=>w'.cell? ⟨Q,0,none⟩=some (.slice (some ⟨g0,o0,none⟩) NN x1.cn)/\w'.cell? ⟨g,o+k*4,none⟩=some (.string Y)/\∀ (j:Nat) (e:Nd),D.names[j]?=some e->w'.cell? ⟨g0,o0+j*2,none⟩=some (txt e.path)/\w'.cell? ⟨g0,o0+j*2+1,none⟩=some (.int .i64 e.kind)) [(true,0),(true,1),(true,2),(true,3),(true,4),(true,5),(true,6),(true,7),(true,8),(true,9),(true,10),(false,11),(true,12),(true,13),(false,14)] 15 (by kernel_rfl) (by kernel_rfl) ?_ ?_ ?_
     ·exact fun _ _ _ _ _ h=>h
     ·exact⟨c0,e0,hc0⟩
     intro _
     simp only [QT.pickM,List.filterMap_cons,List.filterMap_nil,List.getElem?_cons_succ,List.getElem?_cons_zero,Option.map_some,List.drop_succ_cons,List.drop_zero]
     iterate 11 (refine QT.wpMix_take _ (by rfl) (by intro w' hSw;obtain⟨y0,y1,-⟩:=hSw;go_simp;first|done|rfl) ?_;try simp only [Act.put,List.setIfInBounds_toArray,List.set_cons_zero,List.set_cons_succ])
     intro K' hK
     rw [if_pos (by rfl)]
     go_simp
     refine (CF.out _ (Below.refl _ _).drew).mono ?_
     rintro r w5 ⟨z,e,rfl,hze,hzp,hzn,hb5⟩
     simp only []
     have B5:Hid (Below w4.heap.size w4 w5):=Lib.hid (((Below.refl _ _).drew).trans hb5)
     clear hb5
     have s0:=(B5.out.cell (p:=⟨Q,0,none⟩) hQ4).trans c0
     have s1:=(B5.out.cell (p:=⟨g,o+k*4,none⟩) hlt4).trans e0
     have s2:∀ (j:Nat) (e:Nd),D.names[j]?=some e->w5.cell? ⟨g0,o0+j*2,none⟩=some (txt e.path)/\w5.cell? ⟨g0,o0+j*2+1,none⟩=some (.int .i64 e.kind):=fun j e he=>⟨(B5.out.cell (p:=⟨g0,o0+j*2,none⟩) hg0).trans (HC0.out j e he).1,(B5.out.cell (p:=⟨g0,o0+j*2+1,none⟩) hg0).trans (HC0.out j e he).2⟩
     refine hK.out _ _ ⟨s0,s1,s2⟩ ?_
     clear hK K'
     try simp only [Act.put,List.setIfInBounds_toArray,List.set_cons_zero,List.set_cons_succ]
     have hzi:(z:Int)<NN:=by omega
     have hzx:txt e.path=.string Y:=by rw [hzp];exact HYe.out
     obtain⟨kd,hkd⟩:∃ x,e.kind=x:=⟨_,rfl⟩
     have hs2e:∀ w':World,(∀ (j:Nat) (e:Nd),D.names[j]?=some e->w'.cell? ⟨g0,o0+j*2,none⟩=some (txt e.path)/\w'.cell? ⟨g0,o0+j*2+1,none⟩=some (.int .i64 e.kind))->w'.cell? ⟨g0,o0+z*2,none⟩=some (.string Y)/\w'.cell? ⟨g0,o0+z*2+1,none⟩=some (.int .i64 kd):=fun w' h=>by
      have h1:=h z e hze
      rw [hzx,hkd] at h1
      exact h1
     iterate 2 (refine QT.wpMix_take _ (by rfl) (by intro w' hSw;obtain⟨y0,y1,y2⟩:=hSw;obtain⟨y3,y4⟩:=hs2e w' y2;go_simp;first|done|rfl) ?_;try simp only [Act.put,List.setIfInBounds_toArray,List.set_cons_zero,List.set_cons_succ])
     intro K' hK
     rw [if_pos (by rfl)]
     go_simp
     simp only [HYe.out]
     have hkd2:inoN D.names y.path=kd:=by
      have h1:=HV.out.names.entry (List.mem_of_getElem? hze)
      rw [hzp] at h1
      rw [<- hkd,h1]
      rfl
     have hz5:=B5.out.size
     have bz:Below w5.heap.size w5 (w5.alloc (.cells #[.string Y,.int .i64 kd] 130)):=(Below.refl _ _).alloc (Nat.le_refl _) _
     have rz:=heap_alloc_new w5 (.cells #[.string Y,.int .i64 kd] 130)
     refine hK.out _ _ ⟨(bz.cell (p:=⟨Q,0,none⟩) (by show Q<_;omega)).trans s0,(bz.cell (p:=⟨g,o+k*4,none⟩) (by show g<_;omega)).trans s1,fun j e he=>⟨(bz.cell (p:=⟨g0,o0+j*2,none⟩) (by show g0<_;omega)).trans (s2 j e he).1,(bz.cell (p:=⟨g0,o0+j*2+1,none⟩) (by show g0<_;omega)).trans (s2 j e he).2⟩⟩ ?_
     clear hK K'
     refine QT.wpMix_nil ?_
     try simp only [Act.put,List.setIfInBounds_toArray,List.set_cons_zero,List.set_cons_succ]
     obtain⟨v9,w9,hrun,hown9,hrs9,hd9,hout9⟩:=ke_push (L:=edK D t p k) (e:=edE D t p k y) ⟨_,X4.out.below B5.out⟩ (owns_below O4.out B5.out) HL1.out (by rw [hKl];omega) HwW.out (by omega) bz rz (by rw [HEe.out];exact HYe.out) (by rw [HEe.out];exact hkd2)
     have HO9:=Lib.hid hown9
     have HR9:=Lib.hid hrs9
     have HD9:=Lib.hid hd9
     have HU9:=Lib.hid hout9
     clear hown9 hrs9 hd9 hout9 bz rz s0 s1 s2 hzp hzx hkd hkd2 hs2e hze c0 e0 e1 e2 e3 hc0
     repeat (first|(at_builtin;refine wpList_app_eq rfl (.tmp 78) (.tmp 92) 53 53 rfl _ _ rfl rfl hrun ?_)|go_skip|go_guarded|go_step|go_upon)
     refine NoPanic.normal ?_
     repeat (first|go_skip|go_guarded|go_step|go_upon)
     have O5:=Lib.hid (owns_below O4.out B5.out)
     have N5:=Lib.hid (owns_below N4.out B5.out)
     have Box5:=Lib.hid ((B5.out.block _ hbx4).trans Box4.out)
     refine⟨⟨k+1,by go_num,by omega,⟨⟨T1,?_,HS1.out,HT1.out,HD9.out,HNb1.out⟩,?_,?_,?_⟩,?_⟩,by simp [Go.RowKit.intOf];omega⟩
     ·rw [HIn.out]
      exact HR9.out
     ·refine ((HOut.out.thenBelow B4.out).thenBelow B5.out).then HU9.out (fun j hj h=>?_)
      have:=(O5.out.lt j h).1;omega
     ·rw [edK_succ HY.out]
      exact HO9.out
     ·rw [HN.out]
      exact own_same N5.out fun g' hg'=>HU9.out.block g' (N5.out.lt g' hg').2 (fun e=>(own_type N5.out g' hg').ne (own_type O5.out g' e) (by decide) rfl)
     ·exact (HU9.out.block _ (by omega) (fun e=>(own_type O5.out _ e).ne ⟨_,_,Box5.out⟩ (by decide) rfl)).trans Box5.out
   ·have hkz:¬ (k:Int)<n:=by omega
    have hkn:k=n:=by omega
    subst hkn
    obtain⟨⟨T1,hx1,hs1,ht1,hl1,hnb1⟩,hout,hown,hnod⟩:=hat
    have hlen:=edK_len (D:=D) (t:=t) (p:=p) (k:=k) (by rw [HN.out];exact Nat.le_refl _)
    obtain⟨a9,c9,rfl,hL9⟩:=layR_own (T:=fun _=>True) hown (fun _ _=>trivial)
    have hE:=HEd.out
    rw [HN.out] at hE
    have htk:t.take k=t:=List.take_of_length_le (by rw [HN.out];exact Nat.le_refl _)
    rw [htk] at hx1
    have hnm:=HNum.out
    rw [hE] at hnm
    have CC:=kchanged_any w wr T1 Q m m (inosR D (D.inos++freshR D (inE t p))) (edK D t p k) a9 c9 hx1 (fun _=>True) hL9 (by rw [hlen];omega) (fun e he=>by
     rcases (edK_mem (D:=D) (t:=t) (p:=p) k (by rw [HN.out];exact Nat.le_refl _) e).1 he with h|⟨z,hz,_,rfl⟩
     ·obtain⟨_,_,z,hz,hze,_⟩:=freshes_kind D _ e h
      rw [hze]
      have hz2:=(List.mem_filter.1 hz).1
      rw [htk] at hz2
      have:=((path_iff z.path).1 (HTr.out.path z hz2)).1
      omega
     ·rw [htk] at hz
      show z.path.length<=_
      have:=((path_iff z.path).1 (HTr.out.path z hz)).1
      omega) hm (by rw [hlen];exact hnm)
    rw [hlen] at CC
    rw [hlen]
    rw [<- hE] at CC
    have HCC:=Lib.hid CC
    have HS1:=Lib.hid hs1
    have HOut:=Lib.hid hout
    clear CC hx1 hs1 ht1 hl1 hnb1 hout hown hnod hL9 hlen hE htk hnm hbox hlt HAt HBox
    repeat (first|(go_at_call 138;refine HCC.out.mono ?_;rintro r w6 ⟨rfl,ha6⟩;simp only [];have HA6:=Lib.hid ha6;clear ha6)|go_skip|go_guarded|go_step|go_upon)
    go_end0
    exact⟨rfl,RAft.chain HS1.out HOut.out HA6.out⟩
 ·have hez:((er:Int) != 0)=true:=by simp;omega
  have HDf:Hid (editR D p v=D):=Lib.hid (editR_no (by omega))
  clear hpc ht her o3 b3 hz o2 b2 hla2 bd rB2 rB3 q1 q2
  repeat (first|go_skip|go_guarded|go_step|go_upon)
  (try simp only [Exit.inBlock,Exit.then])
  refine bodyPost_ret (results_none rfl _ _ _) rfl ?_
  rw [HDf.out]
  exact⟨rfl,(RAft.same HR.out).later B3.out⟩
end RK
end Go.Proofs.YtmohjalanhnhbaaGreatDoor