import Derived.Test.YtkmcjededpamnaaGreatDoorMg15
set_option linter.all false
set_option maxRecDepth 100000
set_option maxHeartbeats 0
namespace Go.Proofs.YtkmcjededpamnaaGreatDoor
section
open Go.RowKit Go.Lib Go.BigFrame
namespace RK
open OM TP TM DP DM FP DG TG TR
def repK(ns:List Nd)(p q:List UInt8)(k:Nat):List Nd:=(ns.take k).filter fun e=>decide (e.path≠p)&&decide (e.path≠q)
theorem repK_yes{ns:List Nd}{p q:List UInt8}{k:Nat}{e:Nd}(hx:ns[k]?=some e)(h:¬(e.path=p\/e.path=q)):repK ns p q (k+1)=repK ns p q k++[e]:=by
 unfold repK;rw[List.take_add_one,hx,Option.toList_some,List.filter_append];have h1:e.path≠p:=fun h2=>h (.inl h2);have h2:e.path≠q:=fun h2=>h (.inr h2);simp[h1,h2]
theorem repK_no{ns:List Nd}{p q:List UInt8}{k:Nat}{e:Nd}(hx:ns[k]?=some e)(h:e.path=p\/e.path=q):repK ns p q (k+1)=repK ns p q k:=by
 unfold repK;rw[List.take_add_one,hx,Option.toList_some,List.filter_append];rcases h with h|h<;>simp[h]
theorem repK_len(ns:List Nd)(p q:List UInt8)(k:Nat):(repK ns p q k).length<=k:=by
 unfold repK;exact Nat.le_trans (List.length_filter_le _ _) (by rw[List.length_take];omega)
theorem repK_all{ns:List Nd}{p q:List UInt8}{n:Nat}(h:ns.length<=n):repK ns p q n=delE (delE ns p) q:=by
 unfold repK delE;rw[List.take_of_length_le h,List.filter_filter];apply List.filter_congr;intro e _;rw[Bool.and_comm]
theorem kreplace_any(w W:World)(T:Nat->Prop)(Q m:Nat)(D:Dk)(p q:List UInt8)(h:RS w W T Q m D)(hv:V D)(hm:m+1<=1000)(hp:p.length<=1048576)(hq:q.length<=1048576) :
  Calls Tryz.prog 81 #[.pointer (some ⟨Q,0,none⟩),txt p,txt q] W fun r W'=>r=.returned (.int .i64 (replaceD D p q).2)/\RAft w W T Q (m+1) (replaceD D p q).1 W':=by
 obtain⟨P,hP,aJ⟩:=txt_of p;obtain⟨O,hO,bk⟩:=txt_of q;obtain⟨x,hx⟩:=h;obtain⟨E,hE⟩:∃ E,(stepD D ⟨cReplace,p,q⟩).1=E:=⟨_,rfl⟩;obtain⟨er,av⟩:∃ e,(stepD D ⟨cReplace,p,q⟩).2=e:=⟨_,rfl⟩;have ao:=step_num hx.num ⟨cReplace,p,q⟩
 have CS:Hid (Calls Tryz.prog 132 #[.pointer (some ⟨Q,0,none⟩),.string ⟨#[82,101,112,108,97,99,101]⟩,.string P,.string O] W fun r w'=>(∃ b,r=.returned (.tuple #[.int .i64 er,.bool b])/\(er=0->b=decide ((fateD E).what=2)))/\RAft w W T Q (m+1) E w'):=hid (by
  have:=kstep_any w W T Q m D ⟨cReplace,p,q⟩ ⟨x,hx⟩ hv hm;unfold fullB at this;rw[hE,av]at this;simp only at this;rw[hP]at this;rw[hO]at this
  exact this)
 rw[hE]at ao
 have ay:Hid (er≠0->replaceD D p q=(E,er)):=hid (fun h0=>by
  unfold replaceD
  rw[after_no (by rw[av];exact h0),← hE,← av])
 have a2:Hid (er=0->replaceD D p q=refuse (replaceE E p q) E (changeD E [en p 0,en q (inoN E.names p)])):=hid (fun h0=>by
  unfold replaceD
  rw[after_yes (by rw[av];exact h0),← hE])
 have ai:Hid (V E):=hid (hE ▸ hv.step ⟨cReplace,p,q⟩);have HN:=hid ao;have HP:=hid hP;have aw:=hid aJ;have bg:=hid hp;have HO:=hid hO;have a9:=hid bk;have aX:=hid hq;obtain⟨Z,hZ⟩:∃ Z,replaceD D p q=Z:=⟨_,rfl⟩;rw[hZ]at ay a2;rw[hZ,hP,hO];clear hx hv hE av ao hZ hP aJ hp hO bk hq;go_enter Tryz.func81,Tryz.ntmps81;repeat (first|go_skip|go_guarded|go_step|go_upon)
 refine CS.out.mono ?_;rintro r w1 ⟨⟨fb,rfl,aK⟩,T1,⟨x1,a3⟩,aN,aE⟩;simp only[];have ap:Hid (∀ D' W',RAft w w1 T1 Q (m+1) D' W'->RAft w W T Q (m+1) D' W'):=hid (fun D' W' hh=>RAft.chain aN aE hh);have ab:=hid a3;clear aN aE CS;by_cases h0:er=0
 ·have HZ:=hid (a2.out h0);subst h0;clear aK ay a2;have B:=hid (Below.refl w1.heap.size w1);clear a3;have CP:=hid (fun V=>rpath_txt P p aw.out bg.out V);obtain⟨pb,aa⟩:∃ b,NP.pathL p=b:=⟨_,rfl⟩;rw[aa]at CP;have CQ:=hid (fun V=>rpath_txt O q a9.out aX.out V);obtain⟨qb,am⟩:∃ b,NP.pathL q=b:=⟨_,rfl⟩;rw[am]at CQ
  have ba:Hid (∀ V,Below w1.heap.size w1 V->Calls Tryz.prog 134 #[.pointer (some ⟨Q,0,none⟩),.string P] V fun r w'=>∃ z,r=.returned (.int .i64 z)/\FindSays E.names p z/\Below V.heap.size V w'):=hid (fun V hV=>by
   have:=kfind_any w V T1 Q (m+1) E p ⟨x1,ab.out.below hV⟩ ai.out.names.len;rw[HP.out]at this
   exact this)
  have a8:Hid (∀ V,Below w1.heap.size w1 V->Calls Tryz.prog 133 #[.pointer (some ⟨Q,0,none⟩),.string P] V fun r w'=>r=.returned (.bool (decide (kindD E p=2)))/\Below V.heap.size V w'):=hid (fun V hV=>by
   have:=kdir_any w V T1 Q (m+1) E p ⟨x1,ab.out.below hV⟩ ai.out.fit;rw[HP.out]at this
   exact this)
  have aR:Hid (∀ V,Below w1.heap.size w1 V->Calls Tryz.prog 133 #[.pointer (some ⟨Q,0,none⟩),.string O] V fun r w'=>r=.returned (.bool (decide (kindD E q=2)))/\Below V.heap.size V w'):=hid (fun V hV=>by
   have:=kdir_any w V T1 Q (m+1) E q ⟨x1,ab.out.below hV⟩ ai.out.fit;rw[HO.out]at this
   exact this)
  obtain⟨U,hU,aB⟩:=rparent_txt O q a9.out aX.out;have aD:=hid aB
  have aS:Hid (∀ V,Below w1.heap.size w1 V->Calls Tryz.prog 133 #[.pointer (some ⟨Q,0,none⟩),.string U] V fun r w'=>r=.returned (.bool (upB E q))/\Below V.heap.size V w'):=hid (fun V hV=>by
   have:=kdir_any w V T1 Q (m+1) E (NP.parentL q) ⟨x1,ab.out.below hV⟩ ai.out.fit;rw[show txt (NP.parentL q)=.string U by rw[<- hU,txt_data]]at this
   exact this)
  have bw:=hid HO.out;clear hU aB
  cases pb with
  | false =>
   have ad:Hid (Z=(E,11)):=hid (by rw[HZ.out];simp[replaceE,refuse,firstE,whenE,aa]);clear aa am;repeat (first|(go_at_call 86;(with_reducible refine OM.onB (CP.out _) B ?_);intro w2 B;simp only[])|go_skip|go_guarded|go_step|go_upon)
   go_ret;rw[ad.out];exact⟨rfl,ap.out _ _ ((RAft.same ⟨x1,ab.out⟩).later B.out)⟩
  | true =>
   cases qb with
   | false =>
    have ad:Hid (Z=(E,11)):=hid (by rw[HZ.out];simp[replaceE,refuse,firstE,whenE,aa,am]);clear aa am;repeat (first|(go_at_call 86;(with_reducible refine OM.onB (CP.out _) B ?_);intro w2 B;simp only[])|(go_at_call 86;(with_reducible refine OM.onB (CQ.out _) B ?_);intro w2 B;simp only[])|go_skip|go_guarded|go_step|go_upon)
    go_ret;rw[ad.out];exact⟨rfl,ap.out _ _ ((RAft.same ⟨x1,ab.out⟩).later B.out)⟩
   | true =>
    by_cases heq:q=p
    ·have b6:(P.toList==O.toList)=true:=by rw[toList_data,toList_data,aw.out,a9.out,heq];simp
     have ad:Hid (Z=(E,2)):=hid (by rw[HZ.out];simp[replaceE,refuse,firstE,whenE,aa,am,heq]);clear heq aa am;repeat (first|(go_at_call 86;(with_reducible refine OM.onB (CP.out _) B ?_);intro w2 B;simp only[])|(go_at_call 86;(with_reducible refine OM.onB (CQ.out _) B ?_);intro w2 B;simp only[])|go_skip|go_guarded|go_step|go_upon)
     go_ret;rw[ad.out];exact⟨rfl,ap.out _ _ ((RAft.same ⟨x1,ab.out⟩).later B.out)⟩
    ·have b6:(P.toList==O.toList)=false:=by rw[toList_data,toList_data,aw.out,a9.out];simpa using fun h=>heq h.symm
     repeat (first|(go_at_call 86;(with_reducible refine OM.onB (CP.out _) B ?_);intro w2 B;simp only[])|(go_at_call 86;(with_reducible refine OM.onB (CQ.out _) B ?_);intro w2 B;simp only[])|go_skip|go_guarded|go_step|go_upon)
     refine(ba.out _ B.out).mono ?_;rintro r w3 ⟨z,rfl,a5,aF⟩;simp only[];have B:=hid (Below.trans B.out (aF.mono B.out.size));clear aF;rcases found_at (ab.out.below B.out) ai.out (path_ne aa) a5 with ⟨rfl,aj,bb⟩|⟨k,q0,i,n,ni,g,o,cn,gi,ci,rfl,hf⟩
     ·have ad:Hid (Z=(E,74)):=hid (by rw[HZ.out];simp[replaceE,refuse,firstE,whenE,aa,am,heq,aj]);clear aa am heq aj bb a5;repeat (first|go_skip|go_guarded|go_step|go_upon)
      go_ret;rw[ad.out];exact⟨rfl,ap.out _ _ ((RAft.same ⟨x1,ab.out⟩).later B.out)⟩
     ·have aj:kindD E p≠0:=by
       rw[hf.knd];rcases okI_kind hf.ok with h|h|h<;>omega
      have b8:¬((k:Int)<0):=by omega
      have bz:=hf.kl;have b9:=hf.kn;have fe:=hf.ent;have b5:=hid hf.inN;have f0:=hf.n0
      have ar:E.names.length=n:=by
       have hr:=(ab.out.below B.out).row;unfold rdC at hr;obtain⟨r0,-⟩:=row10 hr;rw[f0]at r0;injection r0 with r0;injection r0 with _ r0 _;exact r0.symm
      have ak:=hid ar;have b2:n<=1000:=by have:=ai.out.names.len;omega
      have F0:=hid f0;have aO:=hid hf.lt;have ag:=hid (ab.out.below B.out).names
      have aP:x1.an=some ⟨g,o,none⟩:=by
       have hr:=(ab.out.below B.out).row;unfold rdC at hr;obtain⟨r0,-⟩:=row10 hr;rw[f0]at r0;injection r0 with r0;injection r0 with r0 _ _;exact r0.symm
      rw[aP]at ag;clear ar aP f0;have f0:=F0.out;clear a5 hf;have bx:=hid a8.out;obtain⟨a,ha⟩:∃ a,decide (kindD E p=2)=a:=⟨_,rfl⟩;obtain⟨b,hb⟩:∃ b,decide (kindD E q=2)=b:=⟨_,rfl⟩;obtain⟨c,hc⟩:∃ c,upB E q=c:=⟨_,rfl⟩;rw[ha]at a8;rw[hb]at aR;rw[hc]at aS;clear bx
      cases a with
      | true =>
       have az:kindD E p=2:=of_decide_eq_true ha;have ad:Hid (Z=(E,73)):=hid (by rw[HZ.out];simp[replaceE,refuse,firstE,whenE,aa,am,heq,aj,az]);clear aa am heq aj ha hb hc az f0 fe;repeat (first|(go_at_call 133;(with_reducible refine OM.onB (a8.out _ B.out) B ?_);intro w2 B;simp only[])|go_skip|go_guarded|go_step|go_upon)
       go_ret;rw[ad.out];exact⟨rfl,ap.out _ _ ((RAft.same ⟨x1,ab.out⟩).later B.out)⟩
      | false =>
       have az:¬ kindD E p=2:=of_decide_eq_false ha
       cases b with
       | true =>
        have ac:kindD E q=2:=of_decide_eq_true hb;have ad:Hid (Z=(E,73)):=hid (by rw[HZ.out];simp[replaceE,refuse,firstE,whenE,aa,am,heq,aj,az,ac]);clear aa am heq aj ha hb hc az ac f0 fe;repeat (first|(go_at_call 133;(with_reducible refine OM.onB (a8.out _ B.out) B ?_);intro w2 B;simp only[])|(go_at_call 133;(with_reducible refine OM.onB (aR.out _ B.out) B ?_);intro w2 B;simp only[])|go_skip|go_guarded|go_step|go_upon)
        go_ret;rw[ad.out];exact⟨rfl,ap.out _ _ ((RAft.same ⟨x1,ab.out⟩).later B.out)⟩
       | false =>
        have ac:¬ kindD E q=2:=of_decide_eq_false hb
        cases c with
        | false =>
         have ad:Hid (Z=(E,62)):=hid (by rw[HZ.out];simp[replaceE,refuse,firstE,whenE,aa,am,heq,aj,az,ac,hc]);clear aa am heq aj ha hb hc az ac f0 fe;repeat (first|(go_at_call 133;(with_reducible refine OM.onB (a8.out _ B.out) B ?_);intro w2 B;simp only[])|(go_at_call 133;(with_reducible refine OM.onB (aR.out _ B.out) B ?_);intro w2 B;simp only[])|(go_at_call 133;(with_reducible refine OM.onB (aS.out _ B.out) B ?_);intro w2 B;simp only[])|(go_at_call 89;(with_reducible refine OM.onB (aD.out _) B ?_);intro w2 B;simp only[])|go_skip|go_guarded|go_step|go_upon)
         go_ret;rw[ad.out];exact⟨rfl,ap.out _ _ ((RAft.same ⟨x1,ab.out⟩).later B.out)⟩
        | true =>
         have ad:Hid (Z=(changeD E [en p 0,en q (inoN E.names p)],0)):=hid (by rw[HZ.out];simp[replaceE,refuse,firstE,whenE,aa,am,heq,aj,az,ac,hc]);have FE:=hid fe;clear aa am heq aj ha hb hc az ac f0 fe;have BF:=hid (Below.refl w3.heap.size w3);have B3:=hid B.out;repeat (first|(go_at_call 133;(with_reducible refine(a8.out _ B.out).mono ?_);rintro r w2 ⟨rfl,ac⟩;simp only[];have B:=hid (Below.trans B.out (ac.mono B.out.size));have BF:=hid (Below.trans BF.out (ac.mono BF.out.size));clear ac)|(go_at_call 133;(with_reducible refine(aR.out _ B.out).mono ?_);rintro r w2 ⟨rfl,ac⟩;simp only[];have B:=hid (Below.trans B.out (ac.mono B.out.size));have BF:=hid (Below.trans BF.out (ac.mono BF.out.size));clear ac)|(go_at_call 89;(with_reducible refine(aD.out _).mono ?_);rintro r w2 ⟨rfl,ac⟩;simp only[];have B:=hid (Below.trans B.out (ac.mono B.out.size));have BF:=hid (Below.trans BF.out (ac.mono BF.out.size));clear ac)|(go_at_call 133;(with_reducible refine(aS.out _ B.out).mono ?_);rintro r w2 ⟨rfl,ac⟩;simp only[];have B:=hid (Below.trans B.out (ac.mono B.out.size));have BF:=hid (Below.trans BF.out (ac.mono BF.out.size));have f0:=(BF.out.cell (p:=⟨Q,0,none⟩) aO.out.1).trans F0.out;have fe:=(BF.out.cell (p:=⟨g,o+k*2+1,none⟩) aO.out.2.1).trans FE.out;clear ac)|go_skip|go_guarded|go_step|go_upon)
         obtain⟨i1,bt,bq,bn,br⟩:=info_parts infoRE;repeat (first|go_skip|go_guarded|go_step|go_upon)
         go_loopw [11,12] (fun s11 s12 wr=>∃ j:Nat,s12=.int .i64 j/\j<=n/\wr.ownsRow w3.heap.size 130 2 s11 (repK E.names p q j).length (resC (repK E.names p q j))/\Below w3.heap.size w3 wr) (fun _ s12 _=>n-(RowKit.intOf s12).toNat)
         case atStart=>exact⟨0,rfl,Nat.zero_le _,World.ownsRow_nil _ _ _ _,BF.out⟩
         case round =>
          obtain⟨j,rfl,hj,ho,hb⟩:=hrel;have HO:=hid ho;have HB:=hid hb;have bo:=hb.size;have aC:=hid (repK_len E.names p q j);have c0:=(hb.cell (p:=⟨Q,0,none⟩) aO.out.1).trans F0.out;have ax:=ag.out.below hb;clear ho hb;by_cases hlt:j<n
          ·have aU:(j:Int)<n:=by omega
           obtain⟨g2,o2,a7,_,_,_,hc⟩:=ax (by have:=ak.out;omega);injection a7 with a7;injection a7 with hg2 ho2 _;subst hg2 ho2;obtain⟨e,hx⟩:∃ x,E.names[j]?=some x:=⟨_,List.getElem?_eq_getElem (by rw[ak.out];exact hlt)⟩;obtain⟨c1,c2⟩:=hc j e hx;obtain⟨X,hX,aq⟩:=txt_of e.path;obtain⟨kd,aL⟩:∃ z,e.kind=z:=⟨_,rfl⟩;rw[hX]at c1;rw[aL]at c2;have a1:=ai.out.names.path e (List.mem_of_getElem? hx);by_cases he:e.path=p\/e.path=q
           ·have HK:=hid (repK_no hx he);by_cases he1:e.path=p
            ·have bc:(X.toList==P.toList)=true:=by rw[toList_data,toList_data,aq,aw.out,he1];simp
             have ac:(!(X.toList==P.toList))=false:=by rw[bc];rfl
             clear hc hx hX aq he a1 ax hlt aL he1;repeat (first|go_skip|go_guarded|go_step|go_upon)
             exact⟨⟨j+1,by go_num,by omega,by rw[HK.out];exact HO.out,HB.out⟩,by simp[RowKit.intOf];omega⟩
            ·have bc:(X.toList==P.toList)=false:=by rw[toList_data,toList_data,aq,aw.out];simpa using he1
             have ac:(X.toList==O.toList)=true:=by rw[toList_data,toList_data,aq,a9.out,he.resolve_left he1];simp
             clear hc hx hX aq he a1 ax hlt aL he1;repeat (first|go_skip|go_guarded|go_step|go_upon)
             exact⟨⟨j+1,by go_num,by omega,by rw[HK.out];exact HO.out,HB.out⟩,by simp[RowKit.intOf];omega⟩
           ·have bc:(X.toList==P.toList)=false:=by rw[toList_data,toList_data,aq,aw.out];simpa using fun h=>he (.inl h)
            have ac:(X.toList==O.toList)=false:=by rw[toList_data,toList_data,aq,a9.out];simpa using fun h=>he (.inr h)
            have HK:=hid (repK_yes hx he);have aY:Hid (∀(W:World) (j:Nat) (u:Value),(reC e)[j]?=some u->(W.alloc (.cells #[.string X,.int .i64 kd] 130)).cell? ((⟨W.heap.size,0,none⟩:Addr).add j)=some u):=hid (fun W=>re_new W e _ _ hX aL);clear hc hx hX aq he a1 ax hlt aL
            repeat (first
             | (at_builtin;refine wpList_append_own _ rfl _ _ 53 rfl w3.heap.size 130 i1 (.agg #[.string ⟨#[]⟩,.int .i64 0]) 2 24 Tryz.underlying53 bt bq bn br rfl (by decide) _ _ _ rfl (HO.out.alloc _) ⟨wr.heap.size,0,none⟩ 1 1 (reC e) rfl rfl (aY.out _) (re_one _) (by have:=aC.out;unfold maxLen;omega) (by have:=aC.out;omega) (by simp;omega) ?_;intro v' w8 al ah au;have bh:=hid al;have be:Hid (Below w3.heap.size w3 w8):=hid ((HB.out.alloc bo _).grown ah (by simp;omega) (fun j hj=>(HO.out.lt j hj).1));clear al ah au)
             | go_skip|go_guarded|go_step|go_upon)
            refine⟨⟨j+1,by go_num,by omega,?_,be.out⟩,by simp[RowKit.intOf];omega⟩;rw[HK.out,List.length_append,List.length_singleton,res_snoc];exact bh.out
          ·have aU:¬(j:Int)<n:=by omega
           have b0:j=n:=by omega
           have aQ:Hid (repK E.names p q j=delE (delE E.names p) q):=hid (by rw[b0];exact repK_all (by rw[ak.out];exact Nat.le_refl _));have bj:∀ y∈delE (delE E.names p) q,y.path≠q:=fun y hy=>(mem_del.1 hy).2;obtain⟨R,hR⟩:∃ R,delE (delE E.names p) q=R:=⟨_,rfl⟩;rw[hR]at aQ
           have b7:Hid (sortK (R++[en q ((q0+1:Nat):Int)]) (R.length+1)=withE E.names [en p 0,en q (inoN E.names p)]):=hid (by
            have h1:=sortK_more (e:=en q ((q0+1:Nat):Int)) (sorted_del (sorted_del ai.out.names.sorted p) q) bj;rw[hR]at h1;rw[h1,b5.out];show insE R _=putE (putE E.names (en p 0)) (en q ((q0+1:Nat):Int));unfold putE;rw[if_pos (show(en p 0).kind=0 from rfl),if_neg (show ¬(en q ((q0+1:Nat):Int)).kind=0 by show((q0+1:Nat):Int)≠0;omega)];show _=insE (delE (delE E.names p) q) _
            rw[hR])
           have b1:Hid (∀ e∈R++[en q ((q0+1:Nat):Int)],e.path.length<=1048576):=hid (fun e he=>by
            rcases List.mem_append.1 he with h|h
            ·rw[<- hR]at h;have h1:=ai.out.names.path e (mem_del.1 (mem_del.1 h).1).1;have:=((path_iff e.path).1 h1).1;omega
            ·rw[List.mem_singleton.1 h]
             exact aX.out)
           rw[aQ.out]at HO aC;have aY:Hid (∀(W:World) (j:Nat) (u:Value),(reC (en q ((q0+1:Nat):Int)))[j]?=some u->(W.alloc (.cells #[.string O,.int .i64 ((q0+1:Nat):Int)] 130)).cell? ((⟨W.heap.size,0,none⟩:Addr).add j)=some u):=hid (fun W=>re_new W (en q ((q0+1:Nat):Int)) _ _ bw.out rfl);clear hlt ax bj hR
           repeat (first
            | (at_builtin;refine wpList_append_own _ rfl _ _ 53 rfl w3.heap.size 130 i1 (.agg #[.string ⟨#[]⟩,.int .i64 0]) 2 24 Tryz.underlying53 bt bq bn br rfl (by decide) _ _ _ rfl (HO.out.alloc _) ⟨wr.heap.size,0,none⟩ 1 1 (reC (en q ((q0+1:Nat):Int))) rfl rfl (aY.out _) (re_one _) (by have:=aC.out;unfold maxLen;omega) (by have:=aC.out;omega) (by simp;omega) ?_;intro v' w8 al ah au;have bh:=hid al;have be:Hid (Below w3.heap.size w3 w8):=hid ((HB.out.alloc bo _).grown ah (by simp;omega) (fun j hj=>(HO.out.lt j hj).1));clear al ah au)
            | go_skip|go_guarded|go_step|go_upon)
           have aZ:=bh.out;rw[<- res_snoc,show R.length+1=(R++[en q ((q0+1:Nat):Int)]).length by simp]at aZ;obtain⟨a6,c6,rfl,aM⟩:=layR_own (T:=fun _=>True) aZ (fun _ _=>trivial);have B6:Hid (Below w1.heap.size w1 w8):=hid (Below.trans B3.out (be.out.mono B3.out.size));have aT:(R++[en q ((q0+1:Nat):Int)]).length=R.length+1:=by simp
           have bf:chgR E (sortK (R++[en q ((q0+1:Nat):Int)]) (R++[en q ((q0+1:Nat):Int)]).length)=changeD E [en p 0,en q (inoN E.names p)]:=by
            rw[aT];unfold chgR changeD;rw[b7.out]
           have CC:=kchanged_any w w8 T1 Q (m+1) (m+1) E (R++[en q ((q0+1:Nat):Int)]) a6 c6 ⟨x1,ab.out.below B6.out⟩ (fun _=>True) aM (by rw[aT];have:=aC.out;omega) b1.out hm (by rw[bf];exact HN.out.change _);rw[bf]at CC;have aI:=hid CC;obtain⟨n6,aG⟩:∃ n,(R++[en q ((q0+1:Nat):Int)]).length=n:=⟨_,rfl⟩;rw[aG]at aI ⊢;clear aM aZ CC bf aT aG;refine aI.out.mono ?_;rintro r w7 ⟨rfl,aH⟩;simp only[];have bi:=hid aH;clear aH;repeat (first|go_skip|go_guarded|go_step|go_upon)
           go_ret;rw[ad.out];exact⟨rfl,ap.out _ _ (RAft.under B6.out bi.out)⟩
 ·have HZ:=hid (ay.out h0);have bv:(er != 0)=true:=by simpa using h0
  have aV:(er==0)=false:=by simpa using h0
  clear a3 h0 aK ay a2;repeat (first|go_skip|go_guarded|go_step|go_upon)
  go_ret;rw[HZ.out];exact⟨rfl,ap.out _ _ (RAft.same ⟨x1,ab.out⟩)⟩
end RK
end
section
open Go.RowKit Go.Lib Go.BigFrame
namespace RK
open OM TP TM DP DM FP DG TG TR
theorem kremove_any(w W:World)(T:Nat->Prop)(Q m:Nat)(D:Dk)(p:List UInt8)(h:RS w W T Q m D)(hv:V D)(hm:m+1<=1000)(hp:p.length<=1048576) :
  Calls Tryz.prog 79 #[.pointer (some ⟨Q,0,none⟩),txt p] W fun r W'=>r=.returned (.int .i64 (removeD D p).2)/\RAft w W T Q (m+1) (removeD D p).1 W':=by
 obtain⟨P,hP,aJ⟩:=txt_of p;obtain⟨x,hx⟩:=h;obtain⟨E,hE⟩:∃ E,(stepD D ⟨cRemove,p,[]⟩).1=E:=⟨_,rfl⟩;obtain⟨er,av⟩:∃ e,(stepD D ⟨cRemove,p,[]⟩).2=e:=⟨_,rfl⟩;have ao:=step_num hx.num ⟨cRemove,p,[]⟩
 have CS:Hid (Calls Tryz.prog 132 #[.pointer (some ⟨Q,0,none⟩),.string ⟨#[82,101,109,111,118,101]⟩,.string P,.string ⟨#[]⟩] W fun r w'=>(∃ b,r=.returned (.tuple #[.int .i64 er,.bool b])/\(er=0->b=decide ((fateD E).what=2)))/\RAft w W T Q (m+1) E w'):=hid (by
  have:=kstep_any w W T Q m D ⟨cRemove,p,[]⟩ ⟨x,hx⟩ hv hm;unfold fullB at this;rw[hE,av]at this;simp only at this;rw[hP]at this
  exact this)
 rw[hE]at ao
 have ay:Hid (er≠0->removeD D p=(E,er)):=hid (fun h0=>by
  unfold removeD
  rw[after_no (by rw[av];exact h0),← hE,← av])
 have a2:Hid (er=0->removeD D p=refuse (removeE E p) E (changeD E [en p 0])):=hid (fun h0=>by
  unfold removeD
  rw[after_yes (by rw[av];exact h0),← hE])
 have ai:Hid (V E):=hid (hE ▸ hv.step ⟨cRemove,p,[]⟩);have HN:=hid ao;have HP:=hid hP;have aw:=hid aJ;have bg:=hid hp;obtain⟨Z,hZ⟩:∃ Z,removeD D p=Z:=⟨_,rfl⟩;rw[hZ]at ay a2;rw[hZ,hP];clear hx hv hE av ao hZ hP aJ hp;go_enter Tryz.func79,Tryz.ntmps79;repeat (first|go_skip|go_guarded|go_step|go_upon)
 refine CS.out.mono ?_;rintro r w1 ⟨⟨fb,rfl,aK⟩,T1,⟨x1,a3⟩,aN,aE⟩;simp only[];have ap:Hid (∀ D' W',RAft w w1 T1 Q (m+1) D' W'->RAft w W T Q (m+1) D' W'):=hid (fun D' W' hh=>RAft.chain aN aE hh);have ab:=hid a3;clear aN aE CS;by_cases h0:er=0
 ·have HZ:=hid (a2.out h0);subst h0;clear aK ay a2;have B:=hid (Below.refl w1.heap.size w1);clear a3;have CP:=hid (fun V=>rpath_txt P p aw.out bg.out V);obtain⟨pb,aa⟩:∃ b,NP.pathL p=b:=⟨_,rfl⟩;rw[aa]at CP
  have ba:Hid (∀ V,Below w1.heap.size w1 V->Calls Tryz.prog 134 #[.pointer (some ⟨Q,0,none⟩),.string P] V fun r w'=>∃ z,r=.returned (.int .i64 z)/\FindSays E.names p z/\Below V.heap.size V w'):=hid (fun V hV=>by
   have:=kfind_any w V T1 Q (m+1) E p ⟨x1,ab.out.below hV⟩ ai.out.names.len;rw[HP.out]at this
   exact this)
  cases pb with
  | false =>
   have ad:Hid (Z=(E,11)):=hid (by rw[HZ.out];simp[removeE,refuse,firstE,whenE,aa]);clear aa;repeat (first|(go_at_call 86;(with_reducible refine OM.onB (CP.out _) B ?_);intro w2 B;simp only[])|go_skip|go_guarded|go_step|go_upon)
   go_ret;rw[ad.out];exact⟨rfl,ap.out _ _ ((RAft.same ⟨x1,ab.out⟩).later B.out)⟩
  | true =>
   repeat (first|(go_at_call 86;(with_reducible refine OM.onB (CP.out _) B ?_);intro w2 B;simp only[])|go_skip|go_guarded|go_step|go_upon)
   refine(ba.out _ B.out).mono ?_;rintro r w3 ⟨z,rfl,a5,aF⟩;simp only[];have B:=hid (Below.trans B.out (aF.mono B.out.size));clear aF;rcases found_at (ab.out.below B.out) ai.out (path_ne aa) a5 with ⟨rfl,aj,bb⟩|⟨k,q0,i,n,ni,g,o,cn,gi,ci,rfl,hf⟩
   ·have ad:Hid (Z=(E,74)):=hid (by rw[HZ.out];simp[removeE,refuse,firstE,whenE,aa,aj]);clear aa aj bb a5;repeat (first|go_skip|go_guarded|go_step|go_upon)
    go_ret;rw[ad.out];exact⟨rfl,ap.out _ _ ((RAft.same ⟨x1,ab.out⟩).later B.out)⟩
   ·have aj:kindD E p≠0:=by
     rw[hf.knd];rcases okI_kind hf.ok with h|h|h<;>omega
    have b8:¬((k:Int)<0):=by omega
    have bd:=hid aj;have f0:=hf.n0
    have ar:E.names.length=n:=by
     have hr:=(ab.out.below B.out).row;unfold rdC at hr;obtain⟨r0,-⟩:=row10 hr;rw[f0]at r0;injection r0 with r0;injection r0 with _ r0 _;exact r0.symm
    have ak:=hid ar;have b2:n<=1000:=by have:=ai.out.names.len;omega
    have F0:=hid f0;have b4:=hf.lt;have aO:=hid b4;have ag:=hid (ab.out.below B.out).names
    have aP:x1.an=some ⟨g,o,none⟩:=by
     have hr:=(ab.out.below B.out).row;unfold rdC at hr;obtain⟨r0,-⟩:=row10 hr;rw[f0]at r0;injection r0 with r0;injection r0 with r0 _ _;exact r0.symm
    rw[aP]at ag;have bz:=hf.kl;have B3:=hid B.out;clear hf a5 aj ar aP;repeat (first|go_skip|go_guarded|go_step|go_upon)
    go_loopw [7] (fun s7 wr=>∃ j:Nat,s7=.int .i64 j/\j<=n/\(∀(a:Nat) (e:Nd),a<j->E.names[a]?=some e->NP.upL e.path≠p)/\Below w3.heap.size w3 wr) (fun s7 _=>n-(RowKit.intOf s7).toNat)
    case atStart=>exact⟨0,rfl,Nat.zero_le _,fun a e ha=>by omega,Below.refl _ _⟩
    case round =>
     obtain⟨j,rfl,hj,bs,hb⟩:=hrel;have bp:=hid bs;have HB:=hid hb;have c0:=(hb.cell (p:=⟨Q,0,none⟩) aO.out.1).trans F0.out;have ax:=ag.out.below hb;clear bs hb;by_cases hlt:j<n
     ·have aU:(j:Int)<n:=by omega
      obtain⟨g2,o2,a7,_,_,_,hc⟩:=ax (by have:=ak.out;omega);injection a7 with a7;injection a7 with hg2 ho2 _;subst hg2 ho2;obtain⟨e,hx⟩:∃ x,E.names[j]?=some x:=⟨_,List.getElem?_eq_getElem (by rw[ak.out];exact hlt)⟩;have c1:=(hc j e hx).p;obtain⟨X,hX,aq⟩:=txt_of e.path;rw[hX]at c1;have a1:=ai.out.names.path e (List.mem_of_getElem? hx);obtain⟨U,hU,aB⟩:=rparent_txt X e.path aq (by have:=((path_iff e.path).1 a1).1;omega);have aD:=hid aB;have a0:NP.parentL e.path=NP.upL e.path:=by unfold NP.parentL;rw[if_pos a1]
      by_cases he:NP.upL e.path=p
      ·have hb:(U.toList==P.toList)=true:=by rw[toList_data,toList_data,hU,a0,aw.out,he];simp
       have aA:1<(inE E.names p).length:=by
        obtain⟨h3,h4⟩:=up_in a1 (path_ne aa) he;rcases ai.out.kind (path_ne aa)with ⟨h5,_⟩|⟨d,hd,hdp,_⟩
        ·exact absurd h5 bd.out
        ·exact two_in (List.mem_filter.2 ⟨List.mem_of_getElem? hx,h3⟩) (List.mem_filter.2 ⟨hd,by rw[hdp];exact within_self aa⟩) (fun e2=>h4 (by rw[e2];exact hdp))
       have ad:Hid (Z=(E,72)):=hid (by rw[HZ.out];simp[removeE,refuse,firstE,whenE,aa,bd.out,aA]);have bA:=(Below.refl w3.heap.size w3);clear hc hx hX aq hU aB a0 he aA a1 ax hlt aa;repeat (first|(go_at_call 89;refine OM.onB (aD.out _) HB ?_;intro w4 B4;simp only[])|go_skip|go_guarded|go_step|go_upon)
       go_ret;rw[ad.out];exact⟨rfl,ap.out _ _ ((RAft.same ⟨x1,ab.out⟩).later (Below.trans B3.out (B4.out.mono B3.out.size)))⟩
      ·have hb:(U.toList==P.toList)=false:=by rw[toList_data,toList_data,hU,a0,aw.out];simpa using he
       have aW:Hid (∀(a:Nat) (e:Nd),a<j+1->E.names[a]?=some e->NP.upL e.path≠p):=hid (fun a e' ha a4=>by
        by_cases h:a<j
        ·exact bp.out a e' h a4
        ·have:a=j:=by omega
         subst this;rw[hx]at a4;injection a4 with a4;rw[<- a4]
         exact he)
       clear hc hx hX aq hU aB a0 he a1 ax hlt;repeat (first|(go_at_call 89;refine OM.onB (aD.out _) HB ?_;intro w4 B4;simp only[])|go_skip|go_guarded|go_step|go_upon)
       exact⟨⟨j+1,by go_num,by omega,aW.out,B4.out⟩,by simp[RowKit.intOf];omega⟩
     ·have aU:¬(j:Int)<n:=by omega
      have bl:¬ 1<(inE E.names p).length:=fun h1=>by
       obtain⟨e,he,hu⟩:=ai.out.child aa h1;obtain⟨a,ha,a4⟩:=List.getElem_of_mem he;exact bp.out a e (by have:=ak.out;omega) (by rw[List.getElem?_eq_getElem ha,a4]) hu
      have ad:Hid (Z=(changeD E [en p 0],0)):=hid (by rw[HZ.out];simp[removeE,refuse,firstE,whenE,aa,bd.out,bl]);have B5:Hid (Below w1.heap.size w1 wr):=hid (Below.trans B3.out (HB.out.mono B3.out.size));have CW:=hid (kwithout_any w wr T1 Q (m+1) E p ⟨x1,ab.out.below B5.out⟩ (by have:=ak.out;omega));rw[HP.out]at CW;clear bl ax hlt aa;repeat (first|go_skip|go_guarded|go_step|go_upon)
      refine CW.out.mono ?_;rintro r w6 ⟨v6,rfl,bu,bm⟩;simp only[];obtain⟨a6,c6,rfl,aM⟩:=layR_own (T:=fun _=>True) bu (fun _ _=>trivial);have B6:=hid (Below.trans B5.out (bm.mono B5.out.size));have b3:(delE E.names p).length<=1000:=Nat.le_trans (List.length_filter_le _ _) ai.out.names.len;have aA:=chgR_less (D:=E) (p:=p) ai.out.names.sorted
      have CC:=kchanged_any w w6 T1 Q (m+1) (m+1) E (delE E.names p) a6 c6 ⟨x1,ab.out.below B6.out⟩ (fun _=>True) aM (by omega) (fun e he=>by
       have h1:=ai.out.names.path e (mem_del.1 he).1;have:=((path_iff e.path).1 h1).1
       omega) hm (by rw[aA];exact HN.out.change _)
      rw[aA]at CC;have aI:=hid CC;obtain⟨n6,aG⟩:∃ n,(delE E.names p).length=n:=⟨_,rfl⟩;rw[aG]at aI ⊢;clear aM bu bm CC aA b3 aG;repeat (first|(go_at_call 138;refine aI.out.mono ?_;rintro r w7 ⟨rfl,aH⟩;simp only[];have bi:=hid aH;clear aH)|go_skip|go_guarded|go_step|go_upon)
      go_ret;rw[ad.out];exact⟨rfl,ap.out _ _ (RAft.under B6.out bi.out)⟩
 ·have HZ:=hid (ay.out h0);have bv:(er != 0)=true:=by simpa using h0
  have aV:(er==0)=false:=by simpa using h0
  clear a3 h0 aK ay a2;repeat (first|go_skip|go_guarded|go_step|go_upon)
  go_ret;rw[HZ.out];exact⟨rfl,ap.out _ _ (RAft.same ⟨x1,ab.out⟩)⟩
end RK
end
end Go.Proofs.YtkmcjededpamnaaGreatDoor
