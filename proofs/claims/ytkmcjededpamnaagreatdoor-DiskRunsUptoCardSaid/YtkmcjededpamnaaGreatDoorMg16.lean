import Derived.Test.YtkmcjededpamnaaGreatDoorMg15
set_option linter.all false
set_option maxRecDepth 100000
set_option maxHeartbeats 0
namespace Go.Proofs.YtkmcjededpamnaaGreatDoor
section
open Go.RowKit Go.Lib Go.BigFrame
namespace RK
open OM TP TM DP DM FP DG TG TR
def repK(ns:List Nd)(p q:List UInt8)(k:Nat):List Nd:=(ns.take k).filter fun e=>decide (e.path≠p)&&decide (e.path≠q)
theorem repK_yes{ns:List Nd}{p q:List UInt8}{k:Nat}{e:Nd}(hx:ns[k]?=some e)(h:¬(e.path=p\/e.path=q)):repK ns p q (k+1)=repK ns p q k++[e]:=by
 unfold repK;rw[List.take_add_one,hx,Option.toList_some,List.filter_append];have h1:e.path≠p:=fun h2=>h (.inl h2);have h2:e.path≠q:=fun h2=>h (.inr h2);simp[h1,h2]
theorem repK_no{ns:List Nd}{p q:List UInt8}{k:Nat}{e:Nd}(hx:ns[k]?=some e)(h:e.path=p\/e.path=q):repK ns p q (k+1)=repK ns p q k:=by
 unfold repK;rw[List.take_add_one,hx,Option.toList_some,List.filter_append];rcases h with h|h<;>simp[h]
theorem repK_len(ns:List Nd)(p q:List UInt8)(k:Nat):(repK ns p q k).length<=k:=by
 unfold repK;exact Nat.le_trans (List.length_filter_le _ _) (by rw[List.length_take];omega)
theorem repK_all{ns:List Nd}{p q:List UInt8}{n:Nat}(h:ns.length<=n):repK ns p q n=delE (delE ns p) q:=by
 unfold repK delE;rw[List.take_of_length_le h,List.filter_filter];apply List.filter_congr;intro e _;rw[Bool.and_comm]
theorem kreplace_any(w W:World)(T:Nat->Prop)(Q m:Nat)(D:Dk)(p q:List UInt8)(h:RS w W T Q m D)(hv:V D)(hm:m+1<=1000)(hp:p.length<=1048576)(hq:q.length<=1048576) :
  Calls Tryz.prog 81 #[.pointer (some ⟨Q,0,none⟩),txt p,txt q] W fun r W'=>r=.returned (.int .i64 (replaceD D p q).2)/\RAft w W T Q (m+1) (replaceD D p q).1 W':=by
 obtain⟨P,hP,aJ⟩:=txt_of p;obtain⟨O,hO,br⟩:=txt_of q;obtain⟨x,hx⟩:=h;obtain⟨E,hE⟩:∃ E,(stepD D ⟨cReplace,p,q⟩).1=E:=⟨_,rfl⟩;obtain⟨er,ar⟩:∃ e,(stepD D ⟨cReplace,p,q⟩).2=e:=⟨_,rfl⟩;have ao:=step_num hx.num ⟨cReplace,p,q⟩
 have CS:Hid (Calls Tryz.prog 132 #[.pointer (some ⟨Q,0,none⟩),.string ⟨#[82,101,112,108,97,99,101]⟩,.string P,.string O] W fun r w'=>(∃ b,r=.returned (.tuple #[.int .i64 er,.bool b])/\(er=0->b=decide ((fateD E).what=2)))/\RAft w W T Q (m+1) E w'):=hid (by
  have:=kstep_any w W T Q m D ⟨cReplace,p,q⟩ ⟨x,hx⟩ hv hm;unfold fullB at this;rw[hE,ar]at this;simp only at this;rw[hP]at this;rw[hO]at this
  exact this)
 rw[hE]at ao
 have az:Hid (er≠0->replaceD D p q=(E,er)):=hid (fun h0=>by
  unfold replaceD
  rw[after_no (by rw[ar];exact h0),← hE,← ar])
 have a2:Hid (er=0->replaceD D p q=refuse (replaceE E p q) E (changeD E [en p 0,en q (inoN E.names p)])):=hid (fun h0=>by
  unfold replaceD
  rw[after_yes (by rw[ar];exact h0),← hE])
 have ai:Hid (V E):=hid (hE ▸ hv.step ⟨cReplace,p,q⟩);have HN:=hid ao;have HP:=hid hP;have ax:=hid aJ;have bf:=hid hp;have HO:=hid hO;have aB:=hid br;have bi:=hid hq;obtain⟨Z,hZ⟩:∃ Z,replaceD D p q=Z:=⟨_,rfl⟩;rw[hZ]at az a2;rw[hZ,hP,hO];clear hx hv hE ar ao hZ hP aJ hp hO br hq;go_enter Tryz.func81,Tryz.ntmps81;repeat (first|go_skip|go_guarded|go_step|go_upon)
 refine CS.out.mono ?_;rintro r w1 ⟨⟨fb,rfl,aN⟩,T1,⟨x1,a5⟩,aF,aO⟩;simp only[];have ap:Hid (∀ D' W',RAft w w1 T1 Q (m+1) D' W'->RAft w W T Q (m+1) D' W'):=hid (fun D' W' hh=>RAft.chain aF aO hh);have ab:=hid a5;clear aF aO CS;by_cases h0:er=0
 ·have HZ:=hid (a2.out h0);subst h0;clear aN az a2;have B:=hid (Below.refl w1.heap.size w1);clear a5;have CP:=hid (fun V=>rpath_txt P p ax.out bf.out V);obtain⟨pb,aa⟩:∃ b,NP.pathL p=b:=⟨_,rfl⟩;rw[aa]at CP;have CQ:=hid (fun V=>rpath_txt O q aB.out bi.out V);obtain⟨qb,am⟩:∃ b,NP.pathL q=b:=⟨_,rfl⟩;rw[am]at CQ
  have bg:Hid (∀ V,Below w1.heap.size w1 V->Calls Tryz.prog 134 #[.pointer (some ⟨Q,0,none⟩),.string P] V fun r w'=>∃ z,r=.returned (.int .i64 z)/\FindSays E.names p z/\Below V.heap.size V w'):=hid (fun V hV=>by
   have:=kfind_any w V T1 Q (m+1) E p ⟨x1,ab.out.below hV⟩ ai.out.names.len;rw[HP.out]at this
   exact this)
  have a9:Hid (∀ V,Below w1.heap.size w1 V->Calls Tryz.prog 133 #[.pointer (some ⟨Q,0,none⟩),.string P] V fun r w'=>r=.returned (.bool (decide (kindD E p=2)))/\Below V.heap.size V w'):=hid (fun V hV=>by
   have:=kdir_any w V T1 Q (m+1) E p ⟨x1,ab.out.below hV⟩ ai.out.fit;rw[HP.out]at this
   exact this)
  have aR:Hid (∀ V,Below w1.heap.size w1 V->Calls Tryz.prog 133 #[.pointer (some ⟨Q,0,none⟩),.string O] V fun r w'=>r=.returned (.bool (decide (kindD E q=2)))/\Below V.heap.size V w'):=hid (fun V hV=>by
   have:=kdir_any w V T1 Q (m+1) E q ⟨x1,ab.out.below hV⟩ ai.out.fit;rw[HO.out]at this
   exact this)
  obtain⟨U,hU,a8⟩:=rparent_txt O q aB.out bi.out;have aK:=hid a8
  have aU:Hid (∀ V,Below w1.heap.size w1 V->Calls Tryz.prog 133 #[.pointer (some ⟨Q,0,none⟩),.string U] V fun r w'=>r=.returned (.bool (upB E q))/\Below V.heap.size V w'):=hid (fun V hV=>by
   have:=kdir_any w V T1 Q (m+1) E (NP.parentL q) ⟨x1,ab.out.below hV⟩ ai.out.fit;rw[show txt (NP.parentL q)=.string U by rw[<- hU,txt_data]]at this
   exact this)
  have b3:=hid HO.out;clear hU a8
  cases pb with
  | false =>
   have ad:Hid (Z=(E,11)):=hid (by rw[HZ.out];simp[replaceE,refuse,firstE,whenE,aa]);clear aa am;repeat (first|(go_at_call 86;(with_reducible refine OM.onB (CP.out _) B ?_);intro w2 B;simp only[])|go_skip|go_guarded|go_step|go_upon)
   go_ret;rw[ad.out];exact⟨rfl,ap.out _ _ ((RAft.same ⟨x1,ab.out⟩).later B.out)⟩
  | true =>
   cases qb with
   | false =>
    have ad:Hid (Z=(E,11)):=hid (by rw[HZ.out];simp[replaceE,refuse,firstE,whenE,aa,am]);clear aa am;repeat (first|(go_at_call 86;(with_reducible refine OM.onB (CP.out _) B ?_);intro w2 B;simp only[])|(go_at_call 86;(with_reducible refine OM.onB (CQ.out _) B ?_);intro w2 B;simp only[])|go_skip|go_guarded|go_step|go_upon)
    go_ret;rw[ad.out];exact⟨rfl,ap.out _ _ ((RAft.same ⟨x1,ab.out⟩).later B.out)⟩
   | true =>
    by_cases heq:q=p
    ·have bx:(P.toList==O.toList)=true:=by rw[toList_data,toList_data,ax.out,aB.out,heq];simp
     have ad:Hid (Z=(E,2)):=hid (by rw[HZ.out];simp[replaceE,refuse,firstE,whenE,aa,am,heq]);clear heq aa am;repeat (first|(go_at_call 86;(with_reducible refine OM.onB (CP.out _) B ?_);intro w2 B;simp only[])|(go_at_call 86;(with_reducible refine OM.onB (CQ.out _) B ?_);intro w2 B;simp only[])|go_skip|go_guarded|go_step|go_upon)
     go_ret;rw[ad.out];exact⟨rfl,ap.out _ _ ((RAft.same ⟨x1,ab.out⟩).later B.out)⟩
    ·have bx:(P.toList==O.toList)=false:=by rw[toList_data,toList_data,ax.out,aB.out];simpa using fun h=>heq h.symm
     repeat (first|(go_at_call 86;(with_reducible refine OM.onB (CP.out _) B ?_);intro w2 B;simp only[])|(go_at_call 86;(with_reducible refine OM.onB (CQ.out _) B ?_);intro w2 B;simp only[])|go_skip|go_guarded|go_step|go_upon)
     refine(bg.out _ B.out).mono ?_;rintro r w3 ⟨z,rfl,a3,aG⟩;simp only[];have B:=hid (Below.trans B.out (aG.mono B.out.size));clear aG;rcases found_at (ab.out.below B.out) ai.out (path_ne aa) a3 with ⟨rfl,al,aV⟩|⟨k,q0,i,n,ni,g,o,cn,gi,ci,rfl,hf⟩
     ·have ad:Hid (Z=(E,74)):=hid (by rw[HZ.out];simp[replaceE,refuse,firstE,whenE,aa,am,heq,al]);clear aa am heq al aV a3;repeat (first|go_skip|go_guarded|go_step|go_upon)
      go_ret;rw[ad.out];exact⟨rfl,ap.out _ _ ((RAft.same ⟨x1,ab.out⟩).later B.out)⟩
     ·have al:kindD E p≠0:=by
       rw[hf.knd];rcases okI_kind hf.ok with h|h|h<;>omega
      have bv:¬((k:Int)<0):=by omega
      have b1:=hf.kl;have bA:=hf.kn;have fe:=hf.ent;have b4:=hid hf.inN;have f0:=hf.n0
      have av:E.names.length=n:=by
       have hr:=(ab.out.below B.out).row;unfold rdC at hr;obtain⟨r0,-⟩:=row10 hr;rw[f0]at r0;injection r0 with r0;injection r0 with _ r0 _;exact r0.symm
      have ak:=hid av;have b8:n<=1000:=by have:=ai.out.names.len;omega
      have F0:=hid f0;have aP:=hid hf.lt;have ah:=hid (ab.out.below B.out).names
      have aD:x1.an=some ⟨g,o,none⟩:=by
       have hr:=(ab.out.below B.out).row;unfold rdC at hr;obtain⟨r0,-⟩:=row10 hr;rw[f0]at r0;injection r0 with r0;injection r0 with r0 _ _;exact r0.symm
      rw[aD]at ah;clear av aD f0;have f0:=F0.out;clear a3 hf;have b5:=hid a9.out;obtain⟨a,ha⟩:∃ a,decide (kindD E p=2)=a:=⟨_,rfl⟩;obtain⟨b,hb⟩:∃ b,decide (kindD E q=2)=b:=⟨_,rfl⟩;obtain⟨c,hc⟩:∃ c,upB E q=c:=⟨_,rfl⟩;rw[ha]at a9;rw[hb]at aR;rw[hc]at aU;clear b5
      cases a with
      | true =>
       have ay:kindD E p=2:=of_decide_eq_true ha;have ad:Hid (Z=(E,73)):=hid (by rw[HZ.out];simp[replaceE,refuse,firstE,whenE,aa,am,heq,al,ay]);clear aa am heq al ha hb hc ay f0 fe;repeat (first|(go_at_call 133;(with_reducible refine OM.onB (a9.out _ B.out) B ?_);intro w2 B;simp only[])|go_skip|go_guarded|go_step|go_upon)
       go_ret;rw[ad.out];exact⟨rfl,ap.out _ _ ((RAft.same ⟨x1,ab.out⟩).later B.out)⟩
      | false =>
       have ay:¬ kindD E p=2:=of_decide_eq_false ha
       cases b with
       | true =>
        have ac:kindD E q=2:=of_decide_eq_true hb;have ad:Hid (Z=(E,73)):=hid (by rw[HZ.out];simp[replaceE,refuse,firstE,whenE,aa,am,heq,al,ay,ac]);clear aa am heq al ha hb hc ay ac f0 fe;repeat (first|(go_at_call 133;(with_reducible refine OM.onB (a9.out _ B.out) B ?_);intro w2 B;simp only[])|(go_at_call 133;(with_reducible refine OM.onB (aR.out _ B.out) B ?_);intro w2 B;simp only[])|go_skip|go_guarded|go_step|go_upon)
        go_ret;rw[ad.out];exact⟨rfl,ap.out _ _ ((RAft.same ⟨x1,ab.out⟩).later B.out)⟩
       | false =>
        have ac:¬ kindD E q=2:=of_decide_eq_false hb
        cases c with
        | false =>
         have ad:Hid (Z=(E,62)):=hid (by rw[HZ.out];simp[replaceE,refuse,firstE,whenE,aa,am,heq,al,ay,ac,hc]);clear aa am heq al ha hb hc ay ac f0 fe;repeat (first|(go_at_call 133;(with_reducible refine OM.onB (a9.out _ B.out) B ?_);intro w2 B;simp only[])|(go_at_call 133;(with_reducible refine OM.onB (aR.out _ B.out) B ?_);intro w2 B;simp only[])|(go_at_call 133;(with_reducible refine OM.onB (aU.out _ B.out) B ?_);intro w2 B;simp only[])|(go_at_call 89;(with_reducible refine OM.onB (aK.out _) B ?_);intro w2 B;simp only[])|go_skip|go_guarded|go_step|go_upon)
         go_ret;rw[ad.out];exact⟨rfl,ap.out _ _ ((RAft.same ⟨x1,ab.out⟩).later B.out)⟩
        | true =>
         have ad:Hid (Z=(changeD E [en p 0,en q (inoN E.names p)],0)):=hid (by rw[HZ.out];simp[replaceE,refuse,firstE,whenE,aa,am,heq,al,ay,ac,hc]);have FE:=hid fe;clear aa am heq al ha hb hc ay ac f0 fe;have BF:=hid (Below.refl w3.heap.size w3);have B3:=hid B.out;repeat (first|(go_at_call 133;(with_reducible refine(a9.out _ B.out).mono ?_);rintro r w2 ⟨rfl,ac⟩;simp only[];have B:=hid (Below.trans B.out (ac.mono B.out.size));have BF:=hid (Below.trans BF.out (ac.mono BF.out.size));clear ac)|(go_at_call 133;(with_reducible refine(aR.out _ B.out).mono ?_);rintro r w2 ⟨rfl,ac⟩;simp only[];have B:=hid (Below.trans B.out (ac.mono B.out.size));have BF:=hid (Below.trans BF.out (ac.mono BF.out.size));clear ac)|(go_at_call 89;(with_reducible refine(aK.out _).mono ?_);rintro r w2 ⟨rfl,ac⟩;simp only[];have B:=hid (Below.trans B.out (ac.mono B.out.size));have BF:=hid (Below.trans BF.out (ac.mono BF.out.size));clear ac)|(go_at_call 133;(with_reducible refine(aU.out _ B.out).mono ?_);rintro r w2 ⟨rfl,ac⟩;simp only[];have B:=hid (Below.trans B.out (ac.mono B.out.size));have BF:=hid (Below.trans BF.out (ac.mono BF.out.size));have f0:=(BF.out.cell (p:=⟨Q,0,none⟩) aP.out.1).trans F0.out;have fe:=(BF.out.cell (p:=⟨g,o+k*2+1,none⟩) aP.out.2.1).trans FE.out;clear ac)|go_skip|go_guarded|go_step|go_upon)
         obtain⟨i1,bq,bl,bs,bo⟩:=info_parts infoRE;repeat (first|go_skip|go_guarded|go_step|go_upon)
         go_loopw [11,12] (fun s11 s12 wr=>∃ j:Nat,s12=.int .i64 j/\j<=n/\wr.ownsRow w3.heap.size 130 2 s11 (repK E.names p q j).length (resC (repK E.names p q j))/\Below w3.heap.size w3 wr) (fun _ s12 _=>n-(RowKit.intOf s12).toNat)
         case atStart=>exact⟨0,rfl,Nat.zero_le _,World.ownsRow_nil _ _ _ _,BF.out⟩
         case round =>
          obtain⟨j,rfl,hj,ho,hb⟩:=hrel;have HO:=hid ho;have HB:=hid hb;have bp:=hb.size;have aA:=hid (repK_len E.names p q j);have c0:=(hb.cell (p:=⟨Q,0,none⟩) aP.out.1).trans F0.out;have aw:=ah.out.below hb;clear ho hb;by_cases hlt:j<n
          ·have aW:(j:Int)<n:=by omega
           obtain⟨g2,o2,a4,_,_,_,hc⟩:=aw (by have:=ak.out;omega);injection a4 with a4;injection a4 with hg2 ho2 _;subst hg2 ho2;obtain⟨e,hx⟩:∃ x,E.names[j]?=some x:=⟨_,List.getElem?_eq_getElem (by rw[ak.out];exact hlt)⟩;obtain⟨c1,c2⟩:=hc j e hx;obtain⟨X,hX,aq⟩:=txt_of e.path;obtain⟨kd,aL⟩:∃ z,e.kind=z:=⟨_,rfl⟩;rw[hX]at c1;rw[aL]at c2;have a1:=ai.out.names.path e (List.mem_of_getElem? hx);by_cases he:e.path=p\/e.path=q
           ·have HK:=hid (repK_no hx he);by_cases he1:e.path=p
            ·have bd:(X.toList==P.toList)=true:=by rw[toList_data,toList_data,aq,ax.out,he1];simp
             have ac:(!(X.toList==P.toList))=false:=by rw[bd];rfl
             clear hc hx hX aq he a1 aw hlt aL he1;repeat (first|go_skip|go_guarded|go_step|go_upon)
             exact⟨⟨j+1,by go_num,by omega,by rw[HK.out];exact HO.out,HB.out⟩,by simp[RowKit.intOf];omega⟩
            ·have bd:(X.toList==P.toList)=false:=by rw[toList_data,toList_data,aq,ax.out];simpa using he1
             have ac:(X.toList==O.toList)=true:=by rw[toList_data,toList_data,aq,aB.out,he.resolve_left he1];simp
             clear hc hx hX aq he a1 aw hlt aL he1;repeat (first|go_skip|go_guarded|go_step|go_upon)
             exact⟨⟨j+1,by go_num,by omega,by rw[HK.out];exact HO.out,HB.out⟩,by simp[RowKit.intOf];omega⟩
           ·have bd:(X.toList==P.toList)=false:=by rw[toList_data,toList_data,aq,ax.out];simpa using fun h=>he (.inl h)
            have ac:(X.toList==O.toList)=false:=by rw[toList_data,toList_data,aq,aB.out];simpa using fun h=>he (.inr h)
            have HK:=hid (repK_yes hx he);have be:Hid (∀(W:World) (j:Nat) (u:Value),(reC e)[j]?=some u->(W.alloc (.cells #[.string X,.int .i64 kd] 130)).cell? ((⟨W.heap.size,0,none⟩:Addr).add j)=some u):=hid (fun W=>re_new W e _ _ hX aL);clear hc hx hX aq he a1 aw hlt aL
            repeat (first
             | (at_builtin;refine wpList_append_own _ rfl _ _ 53 rfl w3.heap.size 130 i1 (.agg #[.string ⟨#[]⟩,.int .i64 0]) 2 24 Tryz.underlying53 bq bl bs bo rfl (by decide) _ _ _ rfl (HO.out.alloc _) ⟨wr.heap.size,0,none⟩ 1 1 (reC e) rfl rfl (be.out _) (re_one _) (by have:=aA.out;unfold maxLen;omega) (by have:=aA.out;omega) (by simp;omega) ?_;intro v' w8 aj ag au;have bc:=hid aj;have aT:Hid (Below w3.heap.size w3 w8):=hid ((HB.out.alloc bp _).grown ag (by simp;omega) (fun j hj=>(HO.out.lt j hj).1));clear aj ag au)
             | go_skip|go_guarded|go_step|go_upon)
            refine⟨⟨j+1,by go_num,by omega,?_,aT.out⟩,by simp[RowKit.intOf];omega⟩;rw[HK.out,List.length_append,List.length_singleton,res_snoc];exact bc.out
          ·have aW:¬(j:Int)<n:=by omega
           have bw:j=n:=by omega
           have aQ:Hid (repK E.names p q j=delE (delE E.names p) q):=hid (by rw[bw];exact repK_all (by rw[ak.out];exact Nat.le_refl _));have bt:∀ y∈delE (delE E.names p) q,y.path≠q:=fun y hy=>(mem_del.1 hy).2;obtain⟨R,hR⟩:∃ R,delE (delE E.names p) q=R:=⟨_,rfl⟩;rw[hR]at aQ
           have b0:Hid (sortK (R++[en q ((q0+1:Nat):Int)]) (R.length+1)=withE E.names [en p 0,en q (inoN E.names p)]):=hid (by
            have h1:=sortK_more (e:=en q ((q0+1:Nat):Int)) (sorted_del (sorted_del ai.out.names.sorted p) q) bt;rw[hR]at h1;rw[h1,b4.out];show insE R _=putE (putE E.names (en p 0)) (en q ((q0+1:Nat):Int));unfold putE;rw[if_pos (show(en p 0).kind=0 from rfl),if_neg (show ¬(en q ((q0+1:Nat):Int)).kind=0 by show((q0+1:Nat):Int)≠0;omega)];show _=insE (delE (delE E.names p) q) _
            rw[hR])
           have b7:Hid (∀ e∈R++[en q ((q0+1:Nat):Int)],e.path.length<=1048576):=hid (fun e he=>by
            rcases List.mem_append.1 he with h|h
            ·rw[<- hR]at h;have h1:=ai.out.names.path e (mem_del.1 (mem_del.1 h).1).1;have:=((path_iff e.path).1 h1).1;omega
            ·rw[List.mem_singleton.1 h]
             exact bi.out)
           rw[aQ.out]at HO aA;have be:Hid (∀(W:World) (j:Nat) (u:Value),(reC (en q ((q0+1:Nat):Int)))[j]?=some u->(W.alloc (.cells #[.string O,.int .i64 ((q0+1:Nat):Int)] 130)).cell? ((⟨W.heap.size,0,none⟩:Addr).add j)=some u):=hid (fun W=>re_new W (en q ((q0+1:Nat):Int)) _ _ b3.out rfl);clear hlt aw bt hR
           repeat (first
            | (at_builtin;refine wpList_append_own _ rfl _ _ 53 rfl w3.heap.size 130 i1 (.agg #[.string ⟨#[]⟩,.int .i64 0]) 2 24 Tryz.underlying53 bq bl bs bo rfl (by decide) _ _ _ rfl (HO.out.alloc _) ⟨wr.heap.size,0,none⟩ 1 1 (reC (en q ((q0+1:Nat):Int))) rfl rfl (be.out _) (re_one _) (by have:=aA.out;unfold maxLen;omega) (by have:=aA.out;omega) (by simp;omega) ?_;intro v' w8 aj ag au;have bc:=hid aj;have aT:Hid (Below w3.heap.size w3 w8):=hid ((HB.out.alloc bp _).grown ag (by simp;omega) (fun j hj=>(HO.out.lt j hj).1));clear aj ag au)
            | go_skip|go_guarded|go_step|go_upon)
           have bh:=bc.out;rw[<- res_snoc,show R.length+1=(R++[en q ((q0+1:Nat):Int)]).length by simp]at bh;obtain⟨a6,c6,rfl,aE⟩:=layR_own (T:=fun _=>True) bh (fun _ _=>trivial);have B6:Hid (Below w1.heap.size w1 w8):=hid (Below.trans B3.out (aT.out.mono B3.out.size));have aY:(R++[en q ((q0+1:Nat):Int)]).length=R.length+1:=by simp
           have aS:chgR E (sortK (R++[en q ((q0+1:Nat):Int)]) (R++[en q ((q0+1:Nat):Int)]).length)=changeD E [en p 0,en q (inoN E.names p)]:=by
            rw[aY];unfold chgR changeD;rw[b0.out]
           have CC:=kchanged_any w w8 T1 Q (m+1) (m+1) E (R++[en q ((q0+1:Nat):Int)]) a6 c6 ⟨x1,ab.out.below B6.out⟩ (fun _=>True) aE (by rw[aY];have:=aA.out;omega) b7.out hm (by rw[aS];exact HN.out.change _);rw[aS]at CC;have aM:=hid CC;obtain⟨n6,aI⟩:∃ n,(R++[en q ((q0+1:Nat):Int)]).length=n:=⟨_,rfl⟩;rw[aI]at aM ⊢;clear aE bh CC aS aY aI;refine aM.out.mono ?_;rintro r w7 ⟨rfl,aH⟩;simp only[];have bb:=hid aH;clear aH;repeat (first|go_skip|go_guarded|go_step|go_upon)
           go_ret;rw[ad.out];exact⟨rfl,ap.out _ _ (RAft.under B6.out bb.out)⟩
 ·have HZ:=hid (az.out h0);have b6:(er != 0)=true:=by simpa using h0
  have aX:(er==0)=false:=by simpa using h0
  clear a5 h0 aN az a2;repeat (first|go_skip|go_guarded|go_step|go_upon)
  go_ret;rw[HZ.out];exact⟨rfl,ap.out _ _ (RAft.same ⟨x1,ab.out⟩)⟩
end RK
end
section
open Go.RowKit Go.Lib Go.BigFrame
namespace RK
open OM TP TM DP DM FP DG TG TR
theorem kremove_any(w W:World)(T:Nat->Prop)(Q m:Nat)(D:Dk)(p:List UInt8)(h:RS w W T Q m D)(hv:V D)(hm:m+1<=1000)(hp:p.length<=1048576) :
  Calls Tryz.prog 79 #[.pointer (some ⟨Q,0,none⟩),txt p] W fun r W'=>r=.returned (.int .i64 (removeD D p).2)/\RAft w W T Q (m+1) (removeD D p).1 W':=by
 obtain⟨P,hP,aJ⟩:=txt_of p;obtain⟨x,hx⟩:=h;obtain⟨E,hE⟩:∃ E,(stepD D ⟨cRemove,p,[]⟩).1=E:=⟨_,rfl⟩;obtain⟨er,ar⟩:∃ e,(stepD D ⟨cRemove,p,[]⟩).2=e:=⟨_,rfl⟩;have ao:=step_num hx.num ⟨cRemove,p,[]⟩
 have CS:Hid (Calls Tryz.prog 132 #[.pointer (some ⟨Q,0,none⟩),.string ⟨#[82,101,109,111,118,101]⟩,.string P,.string ⟨#[]⟩] W fun r w'=>(∃ b,r=.returned (.tuple #[.int .i64 er,.bool b])/\(er=0->b=decide ((fateD E).what=2)))/\RAft w W T Q (m+1) E w'):=hid (by
  have:=kstep_any w W T Q m D ⟨cRemove,p,[]⟩ ⟨x,hx⟩ hv hm;unfold fullB at this;rw[hE,ar]at this;simp only at this;rw[hP]at this
  exact this)
 rw[hE]at ao
 have az:Hid (er≠0->removeD D p=(E,er)):=hid (fun h0=>by
  unfold removeD
  rw[after_no (by rw[ar];exact h0),← hE,← ar])
 have a2:Hid (er=0->removeD D p=refuse (removeE E p) E (changeD E [en p 0])):=hid (fun h0=>by
  unfold removeD
  rw[after_yes (by rw[ar];exact h0),← hE])
 have ai:Hid (V E):=hid (hE ▸ hv.step ⟨cRemove,p,[]⟩);have HN:=hid ao;have HP:=hid hP;have ax:=hid aJ;have bf:=hid hp;obtain⟨Z,hZ⟩:∃ Z,removeD D p=Z:=⟨_,rfl⟩;rw[hZ]at az a2;rw[hZ,hP];clear hx hv hE ar ao hZ hP aJ hp;go_enter Tryz.func79,Tryz.ntmps79;repeat (first|go_skip|go_guarded|go_step|go_upon)
 refine CS.out.mono ?_;rintro r w1 ⟨⟨fb,rfl,aN⟩,T1,⟨x1,a5⟩,aF,aO⟩;simp only[];have ap:Hid (∀ D' W',RAft w w1 T1 Q (m+1) D' W'->RAft w W T Q (m+1) D' W'):=hid (fun D' W' hh=>RAft.chain aF aO hh);have ab:=hid a5;clear aF aO CS;by_cases h0:er=0
 ·have HZ:=hid (a2.out h0);subst h0;clear aN az a2;have B:=hid (Below.refl w1.heap.size w1);clear a5;have CP:=hid (fun V=>rpath_txt P p ax.out bf.out V);obtain⟨pb,aa⟩:∃ b,NP.pathL p=b:=⟨_,rfl⟩;rw[aa]at CP
  have bg:Hid (∀ V,Below w1.heap.size w1 V->Calls Tryz.prog 134 #[.pointer (some ⟨Q,0,none⟩),.string P] V fun r w'=>∃ z,r=.returned (.int .i64 z)/\FindSays E.names p z/\Below V.heap.size V w'):=hid (fun V hV=>by
   have:=kfind_any w V T1 Q (m+1) E p ⟨x1,ab.out.below hV⟩ ai.out.names.len;rw[HP.out]at this
   exact this)
  cases pb with
  | false =>
   have ad:Hid (Z=(E,11)):=hid (by rw[HZ.out];simp[removeE,refuse,firstE,whenE,aa]);clear aa;repeat (first|(go_at_call 86;(with_reducible refine OM.onB (CP.out _) B ?_);intro w2 B;simp only[])|go_skip|go_guarded|go_step|go_upon)
   go_ret;rw[ad.out];exact⟨rfl,ap.out _ _ ((RAft.same ⟨x1,ab.out⟩).later B.out)⟩
  | true =>
   repeat (first|(go_at_call 86;(with_reducible refine OM.onB (CP.out _) B ?_);intro w2 B;simp only[])|go_skip|go_guarded|go_step|go_upon)
   refine(bg.out _ B.out).mono ?_;rintro r w3 ⟨z,rfl,a3,aG⟩;simp only[];have B:=hid (Below.trans B.out (aG.mono B.out.size));clear aG;rcases found_at (ab.out.below B.out) ai.out (path_ne aa) a3 with ⟨rfl,al,aV⟩|⟨k,q0,i,n,ni,g,o,cn,gi,ci,rfl,hf⟩
   ·have ad:Hid (Z=(E,74)):=hid (by rw[HZ.out];simp[removeE,refuse,firstE,whenE,aa,al]);clear aa al aV a3;repeat (first|go_skip|go_guarded|go_step|go_upon)
    go_ret;rw[ad.out];exact⟨rfl,ap.out _ _ ((RAft.same ⟨x1,ab.out⟩).later B.out)⟩
   ·have al:kindD E p≠0:=by
     rw[hf.knd];rcases okI_kind hf.ok with h|h|h<;>omega
    have bv:¬((k:Int)<0):=by omega
    have aZ:=hid al;have f0:=hf.n0
    have av:E.names.length=n:=by
     have hr:=(ab.out.below B.out).row;unfold rdC at hr;obtain⟨r0,-⟩:=row10 hr;rw[f0]at r0;injection r0 with r0;injection r0 with _ r0 _;exact r0.symm
    have ak:=hid av;have b8:n<=1000:=by have:=ai.out.names.len;omega
    have F0:=hid f0;have b2:=hf.lt;have aP:=hid b2;have ah:=hid (ab.out.below B.out).names
    have aD:x1.an=some ⟨g,o,none⟩:=by
     have hr:=(ab.out.below B.out).row;unfold rdC at hr;obtain⟨r0,-⟩:=row10 hr;rw[f0]at r0;injection r0 with r0;injection r0 with r0 _ _;exact r0.symm
    rw[aD]at ah;have b1:=hf.kl;have B3:=hid B.out;clear hf a3 al av aD;repeat (first|go_skip|go_guarded|go_step|go_upon)
    go_loopw [7] (fun s7 wr=>∃ j:Nat,s7=.int .i64 j/\j<=n/\(∀(a:Nat) (e:Nd),a<j->E.names[a]?=some e->NP.upL e.path≠p)/\Below w3.heap.size w3 wr) (fun s7 _=>n-(RowKit.intOf s7).toNat)
    case atStart=>exact⟨0,rfl,Nat.zero_le _,fun a e ha=>by omega,Below.refl _ _⟩
    case round =>
     obtain⟨j,rfl,hj,bm,hb⟩:=hrel;have bk:=hid bm;have HB:=hid hb;have c0:=(hb.cell (p:=⟨Q,0,none⟩) aP.out.1).trans F0.out;have aw:=ah.out.below hb;clear bm hb;by_cases hlt:j<n
     ·have aW:(j:Int)<n:=by omega
      obtain⟨g2,o2,a4,_,_,_,hc⟩:=aw (by have:=ak.out;omega);injection a4 with a4;injection a4 with hg2 ho2 _;subst hg2 ho2;obtain⟨e,hx⟩:∃ x,E.names[j]?=some x:=⟨_,List.getElem?_eq_getElem (by rw[ak.out];exact hlt)⟩;have c1:=(hc j e hx).p;obtain⟨X,hX,aq⟩:=txt_of e.path;rw[hX]at c1;have a1:=ai.out.names.path e (List.mem_of_getElem? hx);obtain⟨U,hU,a8⟩:=rparent_txt X e.path aq (by have:=((path_iff e.path).1 a1).1;omega);have aK:=hid a8;have a0:NP.parentL e.path=NP.upL e.path:=by unfold NP.parentL;rw[if_pos a1]
      by_cases he:NP.upL e.path=p
      ·have hb:(U.toList==P.toList)=true:=by rw[toList_data,toList_data,hU,a0,ax.out,he];simp
       have aC:1<(inE E.names p).length:=by
        obtain⟨h3,h4⟩:=up_in a1 (path_ne aa) he;rcases ai.out.kind (path_ne aa)with ⟨h5,_⟩|⟨d,hd,hdp,_⟩
        ·exact absurd h5 aZ.out
        ·exact two_in (List.mem_filter.2 ⟨List.mem_of_getElem? hx,h3⟩) (List.mem_filter.2 ⟨hd,by rw[hdp];exact within_self aa⟩) (fun e2=>h4 (by rw[e2];exact hdp))
       have ad:Hid (Z=(E,72)):=hid (by rw[HZ.out];simp[removeE,refuse,firstE,whenE,aa,aZ.out,aC]);have b9:=(Below.refl w3.heap.size w3);clear hc hx hX aq hU a8 a0 he aC a1 aw hlt aa;repeat (first|(go_at_call 89;refine OM.onB (aK.out _) HB ?_;intro w4 B4;simp only[])|go_skip|go_guarded|go_step|go_upon)
       go_ret;rw[ad.out];exact⟨rfl,ap.out _ _ ((RAft.same ⟨x1,ab.out⟩).later (Below.trans B3.out (B4.out.mono B3.out.size)))⟩
      ·have hb:(U.toList==P.toList)=false:=by rw[toList_data,toList_data,hU,a0,ax.out];simpa using he
       have ba:Hid (∀(a:Nat) (e:Nd),a<j+1->E.names[a]?=some e->NP.upL e.path≠p):=hid (fun a e' ha a7=>by
        by_cases h:a<j
        ·exact bk.out a e' h a7
        ·have:a=j:=by omega
         subst this;rw[hx]at a7;injection a7 with a7;rw[<- a7]
         exact he)
       clear hc hx hX aq hU a8 a0 he a1 aw hlt;repeat (first|(go_at_call 89;refine OM.onB (aK.out _) HB ?_;intro w4 B4;simp only[])|go_skip|go_guarded|go_step|go_upon)
       exact⟨⟨j+1,by go_num,by omega,ba.out,B4.out⟩,by simp[RowKit.intOf];omega⟩
     ·have aW:¬(j:Int)<n:=by omega
      have bj:¬ 1<(inE E.names p).length:=fun h1=>by
       obtain⟨e,he,hu⟩:=ai.out.child aa h1;obtain⟨a,ha,a7⟩:=List.getElem_of_mem he;exact bk.out a e (by have:=ak.out;omega) (by rw[List.getElem?_eq_getElem ha,a7]) hu
      have ad:Hid (Z=(changeD E [en p 0],0)):=hid (by rw[HZ.out];simp[removeE,refuse,firstE,whenE,aa,aZ.out,bj]);have B5:Hid (Below w1.heap.size w1 wr):=hid (Below.trans B3.out (HB.out.mono B3.out.size));have CW:=hid (kwithout_any w wr T1 Q (m+1) E p ⟨x1,ab.out.below B5.out⟩ (by have:=ak.out;omega));rw[HP.out]at CW;clear bj aw hlt aa;repeat (first|go_skip|go_guarded|go_step|go_upon)
      refine CW.out.mono ?_;rintro r w6 ⟨v6,rfl,bu,bn⟩;simp only[];obtain⟨a6,c6,rfl,aE⟩:=layR_own (T:=fun _=>True) bu (fun _ _=>trivial);have B6:=hid (Below.trans B5.out (bn.mono B5.out.size));have bz:(delE E.names p).length<=1000:=Nat.le_trans (List.length_filter_le _ _) ai.out.names.len;have aC:=chgR_less (D:=E) (p:=p) ai.out.names.sorted
      have CC:=kchanged_any w w6 T1 Q (m+1) (m+1) E (delE E.names p) a6 c6 ⟨x1,ab.out.below B6.out⟩ (fun _=>True) aE (by omega) (fun e he=>by
       have h1:=ai.out.names.path e (mem_del.1 he).1;have:=((path_iff e.path).1 h1).1
       omega) hm (by rw[aC];exact HN.out.change _)
      rw[aC]at CC;have aM:=hid CC;obtain⟨n6,aI⟩:∃ n,(delE E.names p).length=n:=⟨_,rfl⟩;rw[aI]at aM ⊢;clear aE bu bn CC aC bz aI;repeat (first|(go_at_call 138;refine aM.out.mono ?_;rintro r w7 ⟨rfl,aH⟩;simp only[];have bb:=hid aH;clear aH)|go_skip|go_guarded|go_step|go_upon)
      go_ret;rw[ad.out];exact⟨rfl,ap.out _ _ (RAft.under B6.out bb.out)⟩
 ·have HZ:=hid (az.out h0);have b6:(er != 0)=true:=by simpa using h0
  have aX:(er==0)=false:=by simpa using h0
  clear a5 h0 aN az a2;repeat (first|go_skip|go_guarded|go_step|go_upon)
  go_ret;rw[HZ.out];exact⟨rfl,ap.out _ _ (RAft.same ⟨x1,ab.out⟩)⟩
end RK
end
end Go.Proofs.YtkmcjededpamnaaGreatDoor
