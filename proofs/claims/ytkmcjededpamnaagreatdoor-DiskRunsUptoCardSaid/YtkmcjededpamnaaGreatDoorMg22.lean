import Derived.Test.YtkmcjededpamnaaGreatDoorMg15
import Derived.Test.YtkmcjededpamnaaGreatDoorMg14
import Derived.Test.YtkmcjededpamnaaGreatDoorMg21
import Derived.Test.YtkmcjededpamnaaGreatDoorMg3
set_option linter.all false
set_option maxRecDepth 100000
set_option maxHeartbeats 0
namespace Go.Proofs.YtkmcjededpamnaaGreatDoor
open List(length_append length_singleton)
section
open Go.RowKit Go.Lib Go.BigFrame
namespace RK
open OM TP TM DP DM FP DG TG TR
def mvK(ns:List Nd)(p q:List UInt8)(k:Nat):List Nd:=(ns.take k).map (movE p q)
theorem mvK_no{ns:List Nd}{p q:List UInt8}{k:Nat}{e:Nd}(hx:ns[k]?=some e)(h:NP.withinL e.path p=false):mvK ns p q (k+1)=mvK ns p q k++[e]:=by
 unfold mvK;rw[List.take_add_one,hx,Option.toList_some,List.map_append];simp[movE,h]
theorem mvK_yes{ns:List Nd}{p q:List UInt8}{k:Nat}{e:Nd}(hx:ns[k]?=some e)(h:NP.withinL e.path p=true):mvK ns p q (k+1)=mvK ns p q k++[en (q++e.path.drop p.length) e.kind]:=by
 unfold mvK;rw[List.take_add_one,hx,Option.toList_some,List.map_append];simp[movE,h]
theorem mvK_len(ns:List Nd)(p q:List UInt8)(k:Nat):(mvK ns p q k).length<=k:=by
 unfold mvK;rw[List.length_map,List.length_take];omega
theorem kmove_any(w W:World)(T:Nat->Prop)(Q m:Nat)(D:Dk)(p q:List UInt8)(h:RS w W T Q m D)(hv:V D)(hm:m+1<=1000)(hp:p.length<=1048576)(hq:q.length<=1048576) :
  Calls Tryz.prog 80 #[.pointer (some ⟨Q,0,none⟩),txt p,txt q] W fun r W'=>r=.returned (.int .i64 (moveD D p q).2)/\RAft w W T Q (m+1) (moveD D p q).1 W':=by
 obtain⟨P,hP,bb⟩:=txt_of p;obtain⟨O,hO,cw⟩:=txt_of q;obtain⟨x,hx⟩:=h;obtain⟨E,hE⟩:∃ E,(stepD D ⟨cMove,p,q⟩).1=E:=⟨_,rfl⟩;obtain⟨er,ax⟩:∃ e,(stepD D ⟨cMove,p,q⟩).2=e:=⟨_,rfl⟩;have ar:=step_num hx.num ⟨cMove,p,q⟩
 have CS:Hid (Calls Tryz.prog 132 #[.pointer (some ⟨Q,0,none⟩),.string ⟨#[77,111,118,101]⟩,.string P,.string O] W fun r w'=>(∃ b,r=.returned (.tuple #[.int .i64 er,.bool b])/\(er=0->b=decide ((fateD E).what=2)))/\RAft w W T Q (m+1) E w'):=hid (by
  have:=kstep_any w W T Q m D ⟨cMove,p,q⟩ ⟨x,hx⟩ hv hm;unfold fullB at this;rw[hE,ax]at this;simp only at this;rw[hP]at this;rw[hO]at this
  exact this)
 rw[hE]at ar
 have aD:Hid (er≠0->moveD D p q=(E,er)):=hid (fun h0=>by
  unfold moveD
  rw[after_no (by rw[ax];exact h0),← hE,← ax])
 have aF:Hid (er=0->moveD D p q=if moveE E p q=0 then(if((movedC E p q).any fun e=>!NP.pathL e.path)=true then(E,11)else(changeD E (movedC E p q),0))else(E,moveE E p q)):=hid (fun h0=>by
  unfold moveD
  rw[after_yes (by rw[ax];exact h0),← hE])
 have aj:Hid (V E):=hid (hE ▸ hv.step ⟨cMove,p,q⟩);have HN:=hid ar;have HP:=hid hP;have aQ:=hid bb;have aN:=hid hp;have HO:=hid hO;have aU:=hid cw;have bI:=hid hq;obtain⟨Z,hZ⟩:∃ Z,moveD D p q=Z:=⟨_,rfl⟩;rw[hZ]at aD aF;rw[hZ,hP,hO];clear hx hv hE ax ar hZ hP bb hp hO cw hq;go_enter Tryz.func80,Tryz.ntmps80;repeat (first|go_skip|go_guarded|go_step|go_upon)
 refine CS.out.mono ?_;rintro r w1 ⟨⟨fb,rfl,aW⟩,T1,⟨x1,aL⟩,az,bd⟩;simp only[];have ai:Hid (∀ D' W',RAft w w1 T1 Q (m+1) D' W'->RAft w W T Q (m+1) D' W'):=hid (fun D' W' hh=>RAft.chain az bd hh);have ac:=hid aL;clear az bd CS;by_cases h0:er=0
 ·have HZ:=hid (aF.out h0);subst h0;clear aW aD aF;have B:=hid (Below.refl w1.heap.size w1);clear aL;have CP:=hid (fun V=>rpath_txt P p aQ.out aN.out V);obtain⟨pb,aa⟩:∃ b,NP.pathL p=b:=⟨_,rfl⟩;rw[aa]at CP;have CQ:=hid (fun V=>rpath_txt O q aU.out bI.out V);obtain⟨qb,ap⟩:∃ b,NP.pathL q=b:=⟨_,rfl⟩;rw[ap]at CQ;have bC:=hid (fun V=>rwithin_txt O P q p aU.out aQ.out bI.out aN.out V);obtain⟨wi,ao⟩:∃ b,NP.withinL q p=b:=⟨_,rfl⟩;rw[ao]at bC
  have bE:Hid (∀ V,Below w1.heap.size w1 V->Calls Tryz.prog 134 #[.pointer (some ⟨Q,0,none⟩),.string P] V fun r w'=>∃ z,r=.returned (.int .i64 z)/\FindSays E.names p z/\Below V.heap.size V w'):=hid (fun V hV=>by
   have:=kfind_any w V T1 Q (m+1) E p ⟨x1,ac.out.below hV⟩ aj.out.names.len;rw[HP.out]at this
   exact this)
  have cM:Hid (∀ V,Below w1.heap.size w1 V->Calls Tryz.prog 134 #[.pointer (some ⟨Q,0,none⟩),.string O] V fun r w'=>∃ z,r=.returned (.int .i64 z)/\FindSays E.names q z/\Below V.heap.size V w'):=hid (fun V hV=>by
   have:=kfind_any w V T1 Q (m+1) E q ⟨x1,ac.out.below hV⟩ aj.out.names.len;rw[HO.out]at this
   exact this)
  obtain⟨U,hU,bn⟩:=rparent_txt O q aU.out bI.out;have bc:=hid bn
  have aM:Hid (∀ V,Below w1.heap.size w1 V->Calls Tryz.prog 133 #[.pointer (some ⟨Q,0,none⟩),.string U] V fun r w'=>r=.returned (.bool (upB E q))/\Below V.heap.size V w'):=hid (fun V hV=>by
   have:=kdir_any w V T1 Q (m+1) E (NP.parentL q) ⟨x1,ac.out.below hV⟩ aj.out.fit;rw[show txt (NP.parentL q)=.string U by rw[<- hU,txt_data]]at this
   exact this)
  clear hU bn
  cases pb with
  | false =>
   have ad:moveE E p q=11:=by unfold moveE;simp[firstE,whenE,aa]
   have ab:Hid (Z=(E,11)):=hid (by rw[HZ.out,if_neg (by rw[ad];decide),ad]);clear ad aa ap ao;repeat (first|(go_at_call 86;(with_reducible refine OM.onB (CP.out _) B ?_);intro w2 B;simp only[])|go_skip|go_guarded|go_step|go_upon)
   go_ret;rw[ab.out];exact⟨rfl,ai.out _ _ ((RAft.same ⟨x1,ac.out⟩).later B.out)⟩
  | true =>
   cases qb with
   | false =>
    have ad:moveE E p q=11:=by unfold moveE;simp[firstE,whenE,aa,ap]
    have ab:Hid (Z=(E,11)):=hid (by rw[HZ.out,if_neg (by rw[ad];decide),ad]);clear ad aa ap ao;repeat (first|(go_at_call 86;(with_reducible refine OM.onB (CP.out _) B ?_);intro w2 B;simp only[])|(go_at_call 86;(with_reducible refine OM.onB (CQ.out _) B ?_);intro w2 B;simp only[])|go_skip|go_guarded|go_step|go_upon)
    go_ret;rw[ab.out];exact⟨rfl,ai.out _ _ ((RAft.same ⟨x1,ac.out⟩).later B.out)⟩
   | true =>
    cases wi with
    | true =>
     have ad:moveE E p q=2:=by unfold moveE;simp[firstE,whenE,aa,ap,ao]
     have ab:Hid (Z=(E,2)):=hid (by rw[HZ.out,if_neg (by rw[ad];decide),ad]);clear ad ao aa ap;repeat (first|(go_at_call 86;(with_reducible refine OM.onB (CP.out _) B ?_);intro w2 B;simp only[])|(go_at_call 86;(with_reducible refine OM.onB (CQ.out _) B ?_);intro w2 B;simp only[])|(go_at_call 100;(with_reducible refine OM.onB (bC.out _) B ?_);intro w2 B;simp only[])|go_skip|go_guarded|go_step|go_upon)
     go_ret;rw[ab.out];exact⟨rfl,ai.out _ _ ((RAft.same ⟨x1,ac.out⟩).later B.out)⟩
    | false =>
     repeat (first|(go_at_call 86;(with_reducible refine OM.onB (CP.out _) B ?_);intro w2 B;simp only[])|(go_at_call 86;(with_reducible refine OM.onB (CQ.out _) B ?_);intro w2 B;simp only[])|(go_at_call 100;(with_reducible refine OM.onB (bC.out _) B ?_);intro w2 B;simp only[])|go_skip|go_guarded|go_step|go_upon)
     refine(bE.out _ B.out).mono ?_;rintro r w3 ⟨z,rfl,a7,bp⟩;simp only[];have B:=hid (Below.trans B.out (bp.mono B.out.size));clear bp;rcases found_at (ac.out.below B.out) aj.out (path_ne aa) a7 with ⟨rfl,ah,b2⟩|⟨k,q0,i,n,ni,g,o,cn,gi,ci,rfl,hf⟩
     ·have ad:moveE E p q=74:=by unfold moveE;simp[firstE,whenE,aa,ap,ao,ah]
      have ab:Hid (Z=(E,74)):=hid (by rw[HZ.out,if_neg (by rw[ad];decide),ad]);clear ad aa ap ao ah b2 a7;repeat (first|go_skip|go_guarded|go_step|go_upon)
      go_ret;rw[ab.out];exact⟨rfl,ai.out _ _ ((RAft.same ⟨x1,ac.out⟩).later B.out)⟩
     ·have ah:kindD E p≠0:=by
       rw[hf.knd];rcases okI_kind hf.ok with h|h|h<;>omega
      have cN:¬((k:Int)<0):=by omega
      have c9:=hf.kl;have f0:=hf.n0
      have bm:E.names.length=n:=by
       have hr:=(ac.out.below B.out).row;unfold rdC at hr;obtain⟨r0,-⟩:=row10 hr;rw[f0]at r0;injection r0 with r0;injection r0 with _ r0 _;exact r0.symm
      have aA:=hid bm;have dg:n<=1000:=by have:=aj.out.names.len;omega
      have F0:=hid f0;have be:=hid hf.lt;have ak:=hid (ac.out.below B.out).names
      have bR:x1.an=some ⟨g,o,none⟩:=by
       have hr:=(ac.out.below B.out).row;unfold rdC at hr;obtain⟨r0,-⟩:=row10 hr;rw[f0]at r0;injection r0 with r0;injection r0 with r0 _ _;exact r0.symm
      rw[bR]at ak;clear bm bR f0;clear a7 hf;repeat (first|go_skip|go_guarded|go_step|go_upon)
      refine(cM.out _ B.out).mono ?_;rintro r w3 ⟨z2,rfl,bs,a9⟩;simp only[];have cE:=hid be.out.1;have be:=hid (show Q<w3.heap.size/\g<w3.heap.size from⟨Nat.lt_of_lt_of_le be.out.1 a9.size,Nat.lt_of_lt_of_le be.out.2.1 a9.size⟩);have F0:=hid ((a9.cell (p:=⟨Q,0,none⟩) cE.out).trans F0.out);have ak:=hid (ak.out.below a9);have B:=hid (Below.trans B.out (a9.mono B.out.size));clear a9;rcases found_at (ac.out.below B.out) aj.out (path_ne ap) bs with ⟨rfl,aJ,cu⟩|⟨k2,q2,i2,n2,df,g2,o2,cX,cZ,dj,rfl,bg⟩
      ·obtain⟨c,hc⟩:∃ c,upB E q=c:=⟨_,rfl⟩;rw[hc]at aM
       cases c with
       | false =>
        have ad:moveE E p q=62:=by unfold moveE;simp[firstE,whenE,aa,ap,ao,ah,aJ,hc]
        have ab:Hid (Z=(E,62)):=hid (by rw[HZ.out,if_neg (by rw[ad];decide),ad]);clear ad aa ap ao ah aJ cu bs hc;repeat (first|(go_at_call 133;(with_reducible refine OM.onB (aM.out _ B.out) B ?_);intro w2 B;simp only[])|(go_at_call 89;(with_reducible refine OM.onB (bc.out _) B ?_);intro w2 B;simp only[])|go_skip|go_guarded|go_step|go_upon)
        go_ret;rw[ab.out];exact⟨rfl,ai.out _ _ ((RAft.same ⟨x1,ac.out⟩).later B.out)⟩
       | true =>
        have ad:Hid (moveE E p q=0):=hid (by unfold moveE;simp[firstE,whenE,aa,ap,ao,ah,aJ,hc]);have bM:=hid ap;clear aa ap ao ah aJ cu bs hc;have BF:=hid (Below.refl w3.heap.size w3);have B3:=hid B.out;repeat (first|(go_at_call 89;(with_reducible refine(bc.out _).mono ?_);rintro r w2 ⟨rfl,aK⟩;simp only[];have B:=hid (Below.trans B.out (aK.mono B.out.size));have BF:=hid (Below.trans BF.out (aK.mono BF.out.size));clear aK)|(go_at_call 133;(with_reducible refine(aM.out _ B.out).mono ?_);rintro r w2 ⟨rfl,aK⟩;simp only[];have B:=hid (Below.trans B.out (aK.mono B.out.size));have BF:=hid (Below.trans BF.out (aK.mono BF.out.size));clear aK)|go_skip|go_guarded|go_step|go_upon)
        obtain⟨i1,bZ,bQ,cz,cr⟩:=info_parts infoRE;repeat (first|go_skip|go_guarded|go_step|go_upon)
        go_loopw [9,10] (fun s9 s10 wr=>∃ j:Nat,s10=.int .i64 j/\j<=n/\wr.ownsRow w3.heap.size 130 2 s9 (mvK E.names p q j).length (resC (mvK E.names p q j))/\Below w3.heap.size w3 wr/\∀(a:Nat) (e:Nd),a<j->E.names[a]?=some e->NP.withinL e.path p=true->NP.pathL (q++e.path.drop p.length)=true) (fun _ s10 _=>n-(RowKit.intOf s10).toNat)
        case atStart=>exact⟨0,rfl,Nat.zero_le _,World.ownsRow_nil _ _ _ _,BF.out,fun a e ha=>by omega⟩
        case round =>
         obtain⟨j,rfl,hj,ho,hb,bi⟩:=hrel;have bq:=hid ho;have HB:=hid hb;have aO:=hid bi;have ct:=hb.size;have aT:=hid (mvK_len E.names p q j);have c0:=(hb.cell (p:=⟨Q,0,none⟩) be.out.1).trans F0.out;have aZ:=ak.out.below hb;clear ho hb bi;by_cases hlt:j<n
         ·have cD:(j:Int)<n:=by omega
          obtain⟨g2,o2,bB,_,_,_,hc⟩:=aZ (by have:=aA.out;omega);injection bB with bB;injection bB with hg2 ho2 _;subst hg2 ho2;obtain⟨e,hx⟩:∃ x,E.names[j]?=some x:=⟨_,List.getElem?_eq_getElem (by rw[aA.out];exact hlt)⟩;obtain⟨c1,c2⟩:=hc j e hx;obtain⟨X,hX,aV⟩:=txt_of e.path;obtain⟨kd,aq⟩:∃ z,e.kind=z:=⟨_,rfl⟩;rw[hX]at c1;rw[aq]at c2;have bu:=aj.out.names.path e (List.mem_of_getElem? hx);have bO:=((path_iff e.path).1 bu).1;obtain⟨bw,aC⟩:∃ b,NP.withinL e.path p=b:=⟨_,rfl⟩;have cx:=hid (fun V=>rwithin_txt X P e.path p aV aQ.out (by omega) aN.out V);rw[aC]at cx;have b0:Below wr.heap.size wr (wr.alloc (.cells #[.string X,.int .i64 kd] 130)):=(Below.refl _ _).alloc (Nat.le_refl _) _;have r0:=heap_alloc_new wr (.cells #[.string X,.int .i64 kd] 130);have B0:=hid b0;have R0:=hid r0;clear b0 r0;repeat (first|go_skip|go_guarded|go_step|go_upon)
          refine(cx.out _).mono ?_;rintro r w4 ⟨rfl,a9⟩;simp only[];have R4:=hid ((a9.block _ (Array.getElem?_eq_some_iff.1 R0.out).1).trans R0.out);have B4:=hid (Below.trans B0.out (a9.mono B0.out.size));have bL:=hid (owns_below bq.out B4.out);have br:Hid (Below w3.heap.size w3 w4):=hid (Below.trans HB.out (B4.out.mono ct));have di:=br.out.size;clear a9;obtain⟨t0,t1,tf⟩:=row2 R4.out
          cases bw with
          | false =>
           have HK:=hid (mvK_no (q:=q) hx aC)
           have ay:Hid (∀(a:Nat) (e:Nd),a<j+1->E.names[a]?=some e->NP.withinL e.path p=true->NP.pathL (q++e.path.drop p.length)=true):=hid (fun a e' ha av hw=>by
            by_cases h:a<j
            ·exact aO.out a e' h av hw
            ·have:a=j:=by omega
             subst this;rw[hx]at av;injection av with av;rw[<- av,aC]at hw
             cases hw)
           have b8:Hid (∀(W:World) (j:Nat) (u:Value),(reC e)[j]?=some u->(W.alloc (.cells #[.string X,.int .i64 kd] 130)).cell? ((⟨W.heap.size,0,none⟩:Addr).add j)=some u):=hid (fun W=>re_new W e _ _ hX aq);clear hc hx hX aV aZ hlt aq bu bO aC
           repeat (first
            | (at_builtin;refine wpList_append_own _ rfl _ _ 53 rfl w3.heap.size 130 i1 (.agg #[.string ⟨#[]⟩,.int .i64 0]) 2 24 Tryz.underlying53 bZ bQ cz cr rfl (by decide) _ _ _ rfl (bL.out.alloc _) ⟨w4.heap.size,0,none⟩ 1 1 (reC e) rfl rfl (b8.out _) (re_one _) (by have:=aT.out;unfold maxLen;omega) (by have:=aT.out;omega) (by simp;omega) ?_;intro v' w8 al ag a0;have b7:=hid al;have b9:Hid (Below w3.heap.size w3 w8):=hid ((br.out.alloc (by have:=br.out.size;omega) _).grown ag (by simp;omega) (fun j hj=>(bL.out.lt j hj).1));clear al ag a0)
            | go_skip|go_guarded|go_step|go_upon)
           refine⟨⟨j+1,by go_num,by omega,?_,b9.out,ay.out⟩,by simp[RowKit.intOf];omega⟩;rw[HK.out,length_append,length_singleton,res_snoc];exact b7.out
          | true =>
           have c7:=within_len aC;have cW:P.size=p.length:=by rw[size_eq,aQ.out]
           obtain⟨lp,cS⟩:∃ z,P.size=z:=⟨_,rfl⟩;have aY:p.length=lp:=by rw[<- cW,cS]
           have cL:=TR.str_from X lp lp rfl (by rw[size_eq,aV,← aY];exact c7);obtain⟨X2,c5,aE⟩:=txt_of (X.data.toList.drop lp);rw[c5]at cL;rw[aV,← aY]at aE;have dk:O.size=q.length:=by rw[size_eq,aU.out]
           have dh:q.length<=400:=((path_iff q).1 bM.out).1;have cT:X2.size<=400:=by rw[size_eq,aE,List.length_drop];omega
           have cO:¬ 9223372036854775807<O.size+X2.size:=by omega
           have bV:=DG.txt_app q (e.path.drop p.length) O X2 aU.out aE;obtain⟨Y,hY⟩:∃ Y,O++X2=Y:=⟨_,rfl⟩
           have ca:Y.data.toList=q++e.path.drop p.length:=by
            rw[<- hY];simp[aU.out,aE]
           have cc:=hid (fun V=>rpath_txt Y (q++e.path.drop p.length) ca (by rw[length_append,List.length_drop];omega) V);obtain⟨yb,ba⟩:∃ b,NP.pathL (q++e.path.drop p.length)=b:=⟨_,rfl⟩;rw[ba]at cc;have bU:txt (q++e.path.drop p.length)=.string Y:=by rw[<- hY];exact bV.symm
           clear bV c5;repeat (first|go_skip|go_guarded|go_step|go_upon)
           try rw[hY]
           have cv:Hid (Out (fun k=>k=wr.heap.size) w4 (w4.setCell ⟨wr.heap.size,0,none⟩ (.string Y))):=hid ((Out.refl (fun k=>k=wr.heap.size) w4).setCell (p:=⟨wr.heap.size,0,none⟩) (fun _=>rfl) _);have R5:Hid ((w4.setCell ⟨wr.heap.size,0,none⟩ (.string Y)).heap[wr.heap.size]?=some (.cells #[.string Y,.int .i64 kd] 130 (0,0))):=hid (row_set (j:=0) R4.out (.string Y));have bF:Hid (Below w3.heap.size w3 (w4.setCell ⟨wr.heap.size,0,none⟩ (.string Y))):=hid (br.out.setCell (p:=⟨wr.heap.size,0,none⟩) ct _);have cj:Hid ((w4.setCell ⟨wr.heap.size,0,none⟩ (.string Y)).ownsRow w3.heap.size 130 2 u9 (mvK E.names p q j).length (resC (mvK E.names p q j))):=hid (cv.out.owns bL.out (fun g hg h=>by have:=(bq.out.lt g hg).2;omega));generalize (w4.setCell ⟨wr.heap.size,0,none⟩ (.string Y))=w5 at cv R5 bF cj ⊢;refine(cc.out _).mono ?_;rintro r w6 ⟨rfl,bv⟩;simp only[];have bx:Hid (Below w3.heap.size w3 w6):=hid (Below.trans bF.out (bv.mono bF.out.size));have cd:=hid (owns_below cj.out bv);have R6:=hid ((bv.block _ (Array.getElem?_eq_some_iff.1 R5.out).1).trans R5.out);have da:=bx.out.size;clear bv t0 t1 tf;obtain⟨t0,t1,tf⟩:=row2 R6.out
           cases yb with
           | false =>
            have ab:Hid (Z=(E,11)):=hid (by
             have h1:((movedC E p q).any fun e=>!NP.pathL e.path)=true:=by
              unfold movedC;rw[List.any_append,Bool.or_eq_true];right;rw[List.any_eq_true];exact⟨en (q++e.path.drop p.length) e.kind,List.mem_map.2 ⟨e,List.mem_filter.2 ⟨List.mem_of_getElem? hx,aC⟩,rfl⟩,by show(!NP.pathL (q++e.path.drop p.length))=true;rw[ba];rfl⟩
             rw[HZ.out,if_pos ad.out,if_pos h1])
            clear hc hx hX aV aZ hlt aq bu bO aC ba;repeat (first|go_skip|go_guarded|go_step|go_upon)
            go_ret;rw[ab.out];exact⟨rfl,ai.out _ _ ((RAft.same ⟨x1,ac.out⟩).later (Below.trans B3.out (bx.out.mono B3.out.size)))⟩
           | true =>
            have HK:=hid (mvK_yes (q:=q) hx aC)
            have ay:Hid (∀(a:Nat) (e:Nd),a<j+1->E.names[a]?=some e->NP.withinL e.path p=true->NP.pathL (q++e.path.drop p.length)=true):=hid (fun a e' ha av hw=>by
             by_cases h:a<j
             ·exact aO.out a e' h av hw
             ·have:a=j:=by omega
              subst this;rw[hx]at av;injection av with av;rw[<- av]
              exact ba)
            have b8:Hid (∀(W:World) (j:Nat) (u:Value),(reC (en (q++e.path.drop p.length) e.kind))[j]?=some u->(W.alloc (.cells #[.string Y,.int .i64 kd] 130)).cell? ((⟨W.heap.size,0,none⟩:Addr).add j)=some u):=hid (fun W=>re_new W (en (q++e.path.drop p.length) e.kind) _ _ bU aq);clear hc hx hX aV aZ hlt aq bu bO aC ba bU ca
            repeat (first
             | (at_builtin;refine wpList_append_own _ rfl _ _ 53 rfl w3.heap.size 130 i1 (.agg #[.string ⟨#[]⟩,.int .i64 0]) 2 24 Tryz.underlying53 bZ bQ cz cr rfl (by decide) _ _ _ rfl (cd.out.alloc _) ⟨w6.heap.size,0,none⟩ 1 1 (reC (en (q++e.path.drop p.length) e.kind)) rfl rfl (b8.out _) (re_one _) (by have:=aT.out;unfold maxLen;omega) (by have:=aT.out;omega) (by simp;omega) ?_;intro v' w8 al ag a0;have b7:=hid al;have b9:Hid (Below w3.heap.size w3 w8):=hid ((bx.out.alloc (by have:=bx.out.size;omega) _).grown ag (by simp;omega) (fun j hj=>(cd.out.lt j hj).1));clear al ag a0)
             | go_skip|go_guarded|go_step|go_upon)
            refine⟨⟨j+1,by go_num,by omega,?_,b9.out,ay.out⟩,by simp[RowKit.intOf];omega⟩;rw[HK.out,length_append,length_singleton,res_snoc];exact b7.out
         ·have cD:¬(j:Int)<n:=by omega
          have cY:j=n:=by omega
          have aR:((movedC E p q).any fun e=>!NP.pathL e.path)=false:=by
           rw[List.any_eq_false];intro x hx;unfold movedC at hx;rcases List.mem_append.1 hx with hx|hx
           ·obtain⟨e,he,rfl⟩:=List.mem_map.1 hx;have h1:=aj.out.names.path e (List.mem_filter.1 he).1;show ¬(!NP.pathL e.path)=true;rw[h1];simp
           ·obtain⟨e,he,rfl⟩:=List.mem_map.1 hx;obtain⟨h1,h2⟩:=List.mem_filter.1 he;obtain⟨a,ha,av⟩:=List.getElem_of_mem h1;have h3:=aO.out a e (by have:=aA.out;omega) (by rw[List.getElem?_eq_getElem ha,av]) h2;show ¬(!NP.pathL (q++e.path.drop p.length))=true;rw[h3];simp
          have aB:=aj.out.moveOk ad.out aR
          have co:mvK E.names p q j=movL E p q:=by
           unfold mvK movL;rw[List.take_of_length_le (by rw[aA.out];omega)]
          have ck:(movL E p q).length=E.names.length:=by unfold movL;rw[List.length_map]
          have ab:Hid (Z=(changeD E (movedC E p q),0)):=hid (by rw[HZ.out,if_pos ad.out,if_neg (by rw[aR];exact Bool.false_ne_true)])
          have b1:chgR E (sortK (movL E p q) (movL E p q).length)=changeD E (movedC E p q):=by
           unfold chgR changeD;rw[ck,movL_names aj.out aB]
          have bf:∀ e∈movL E p q,e.path.length<=1048576:=fun x hx=>by
           unfold movL movE at hx;obtain⟨e,he,rfl⟩:=List.mem_map.1 hx;by_cases hw:NP.withinL e.path p=true
           ·rw[if_pos hw];have:=((path_iff _).1 (aB.all e he hw)).1;show(q++e.path.drop p.length).length<=_;omega
           ·rw[if_neg hw];have:=((path_iff e.path).1 (aj.out.names.path e he)).1;omega
          rw[co]at bq aT;have B6:Hid (Below w1.heap.size w1 wr):=hid (Below.trans B3.out (HB.out.mono B3.out.size));have cm:=bq.out;obtain⟨a6,c6,bJ,bS⟩:=layR_own (T:=fun _=>True) cm (fun _ _=>trivial);subst bJ;have CC:=kchanged_any w wr T1 Q (m+1) (m+1) E (movL E p q) a6 c6 ⟨x1,ac.out.below B6.out⟩ (fun _=>True) bS (by have:=aT.out;omega) bf hm (by rw[b1];exact HN.out.change _);rw[b1]at CC;have cb:=hid CC;obtain⟨n6,bT⟩:∃ n,(movL E p q).length=n:=⟨_,rfl⟩;rw[bT]at cb ⊢;clear bS cm CC b1 bf bT co ck aB aR hlt aZ;repeat (first|(go_at_call 138;refine cb.out.mono ?_;rintro r w7 ⟨rfl,aI⟩;simp only[];have bj:=hid aI;clear aI)|go_skip|go_guarded|go_step|go_upon)
          go_ret;rw[ab.out];exact⟨rfl,ai.out _ _ (RAft.under B6.out bj.out)⟩
      ·have aJ:kindD E q≠0:=by
        rw[bg.knd];rcases okI_kind bg.ok with h|h|h<;>omega
       have dc:(0:Int)<=(k2:Int):=by omega
       have cU:decide ((0:Int)<=(k2:Int))=true:=by simp
       have ad:moveE E p q=72:=by unfold moveE;simp[firstE,whenE,aa,ap,ao,ah,aJ]
       have ab:Hid (Z=(E,72)):=hid (by rw[HZ.out,if_neg (by rw[ad];decide),ad]);clear ad aa ap ao ah aJ bs bg;repeat (first|go_skip|go_guarded|go_step|go_upon)
       go_ret;rw[ab.out];exact⟨rfl,ai.out _ _ ((RAft.same ⟨x1,ac.out⟩).later B.out)⟩
 ·have HZ:=hid (aD.out h0);have cH:(er != 0)=true:=by simpa using h0
  have bK:(er==0)=false:=by simpa using h0
  clear aL h0 aW aD aF;repeat (first|go_skip|go_guarded|go_step|go_upon)
  go_ret;rw[HZ.out];exact⟨rfl,ai.out _ _ (RAft.same ⟨x1,ac.out⟩)⟩
end RK
end
section
open Go.RowKit Go.Lib Go.BigFrame
namespace RK
open OM TP TM DP DM FP DG TG TR
theorem stand_file(p dt:List UInt8)(md:Int):standB ⟨p,1,dt,md⟩=(decide (dt.length<=65536)&&decide (0<=md)&&decide (md<=511)):=by
 unfold standB rightV rightB;simp
theorem wrote_new{E:Dk}(h:V E){p dt:List UInt8}{md:Int}(hp:NP.pathL p=true)(hs:standB ⟨p,1,dt,md⟩=true)(hu:upB E p=true)(h0:kindD E p=0)(hl:E.names.length<1000) :
  wroteD E p dt md=changeD (inosR E (E.inos++[⟨(E.clock:Nat),1,md,dt,true⟩])) [en p ((E.inos.length+1:Nat):Int)]:=by
 have hv:=h.laid_all (n:=⟨p,1,dt,md⟩) hp (stand_right hs) hu h0 hl
 have hr:Row (E.inos.length+1) (changeD (freshD E ⟨p,1,dt,md⟩) [freshE E ⟨p,1,dt,md⟩]).names:=by
  have h1:=hv.names.row
  have h2:(laidD E ⟨p,1,dt,md⟩).inos.length=E.inos.length+1:=by
   show(E.inos++[_]).length=_;simp
  rw[h2]at h1;exact h1
 have hf:=find_laid hr;unfold wroteD;rw[if_pos h0];rw[setI_some _ hf];have hk:(freshE E ⟨p,1,dt,md⟩).kind=((E.inos.length+1:Nat):Int):=rfl
 have hi:inoOf (changeD (freshD E ⟨p,1,dt,md⟩) [freshE E ⟨p,1,dt,md⟩]).inos (freshE E ⟨p,1,dt,md⟩).kind=freshI E ⟨p,1,dt,md⟩:=by
  rw[hk];show inoOf (E.inos++[freshI E ⟨p,1,dt,md⟩]) ((E.inos.length+1:Nat):Int)=_;unfold inoOf;rw[List.getD_eq_getElem?_getD,show((E.inos.length+1:Nat):Int).toNat-1=E.inos.length by omega,List.getElem?_append_right (Nat.le_refl _),Nat.sub_self];rfl
 rw[hi,hk,show((E.inos.length+1:Nat):Int).toNat-1=E.inos.length by omega];show({ changeD (freshD E ⟨p,1,dt,md⟩) [freshE E ⟨p,1,dt,md⟩]with inos:=(E.inos++[freshI E ⟨p,1,dt,md⟩]).set E.inos.length (wroteI E dt md (freshI E ⟨p,1,dt,md⟩)) }:Dk)=_;rw[List.set_append_right _ _ (Nat.le_refl _),Nat.sub_self];rfl
theorem kwrite_any(w W:World)(T:Nat->Prop)(Q m:Nat)(D:Dk)(p dt:List UInt8)(md:Int)(h:RS w W T Q m D)(hv:V D)(hm:m+1<=1000)(hp:p.length<=1048576) :
  Calls Tryz.prog 76 #[.pointer (some ⟨Q,0,none⟩),txt p,txt dt,.int .i64 md] W fun r W'=>r=.returned (.int .i64 (writeD D p dt md).2)/\RAft w W T Q (m+1) (writeD D p dt md).1 W':=by
 obtain⟨P,hP,bb⟩:=txt_of p;obtain⟨DT,bH,aX⟩:=txt_of dt;have bA:=hid aX;have cg:=hid bH;rw[bH];clear bH aX;obtain⟨x,hx⟩:=h;obtain⟨E,hE⟩:∃ E,(stepD D ⟨cWrite,p,[]⟩).1=E:=⟨_,rfl⟩;obtain⟨er,ax⟩:∃ e,(stepD D ⟨cWrite,p,[]⟩).2=e:=⟨_,rfl⟩;have ar:=step_num hx.num ⟨cWrite,p,[]⟩
 have CS:Hid (Calls Tryz.prog 132 #[.pointer (some ⟨Q,0,none⟩),.string ⟨#[87,114,105,116,101]⟩,.string P,.string ⟨#[]⟩] W fun r w'=>(∃ b,r=.returned (.tuple #[.int .i64 er,.bool b])/\(er=0->b=decide ((fateD E).what=2)))/\RAft w W T Q (m+1) E w'):=hid (by
  have:=kstep_any w W T Q m D ⟨cWrite,p,[]⟩ ⟨x,hx⟩ hv hm;unfold fullB at this;rw[hE,ax]at this;simp only at this;rw[hP]at this
  exact this)
 rw[hE]at ar
 have aD:Hid (er≠0->writeD D p dt md=(E,er)):=hid (fun h0=>by
  unfold writeD
  rw[after_no (by rw[ax];exact h0),← hE,← ax])
 have aF:Hid (er=0->writeD D p dt md=refuse (writeE E p dt md) E (wroteD E p dt md)):=hid (fun h0=>by
  unfold writeD
  rw[after_yes (by rw[ax];exact h0),← hE])
 have aj:Hid (V E):=hid (hE ▸ hv.step ⟨cWrite,p,[]⟩);have HN:=hid ar;have HP:=hid hP;have aQ:=hid bb;have aN:=hid hp;obtain⟨Z,hZ⟩:∃ Z,writeD D p dt md=Z:=⟨_,rfl⟩;rw[hZ]at aD aF;rw[hZ,hP];clear hx hv hE ax ar hZ hP bb hp;go_enter Tryz.func76,Tryz.ntmps76;repeat (first|go_skip|go_guarded|go_step|go_upon)
 refine CS.out.mono ?_;rintro r w1 ⟨⟨fb,rfl,aW⟩,T1,⟨x1,aL⟩,az,bd⟩;simp only[];have ai:Hid (∀ D' W',RAft w w1 T1 Q (m+1) D' W'->RAft w W T Q (m+1) D' W'):=hid (fun D' W' hh=>RAft.chain az bd hh);have ac:=hid aL;clear az bd CS;by_cases h0:er=0
 ·have HZ:=hid (aF.out h0);have bt:=hid (aW h0);subst h0;clear aW aD aF;have B:=hid (Below.refl w1.heap.size w1);clear aL;have CP:=hid (fun V=>rpath_txt P p aQ.out aN.out V);obtain⟨pb,aa⟩:∃ b,NP.pathL p=b:=⟨_,rfl⟩;rw[aa]at CP
  have bE:Hid (∀ V,Below w1.heap.size w1 V->Calls Tryz.prog 134 #[.pointer (some ⟨Q,0,none⟩),.string P] V fun r w'=>∃ z,r=.returned (.int .i64 z)/\FindSays E.names p z/\Below V.heap.size V w'):=hid (fun V hV=>by
   have:=kfind_any w V T1 Q (m+1) E p ⟨x1,ac.out.below hV⟩ aj.out.names.len;rw[HP.out]at this
   exact this)
  obtain⟨U,hU,bn⟩:=rparent_txt P p aQ.out aN.out;have bc:=hid bn
  have aM:Hid (∀ V,Below w1.heap.size w1 V->Calls Tryz.prog 133 #[.pointer (some ⟨Q,0,none⟩),.string U] V fun r w'=>r=.returned (.bool (upB E p))/\Below V.heap.size V w'):=hid (fun V hV=>by
   have:=kdir_any w V T1 Q (m+1) E (NP.parentL p) ⟨x1,ac.out.below hV⟩ aj.out.fit;rw[show txt (NP.parentL p)=.string U by rw[<- hU,txt_data]]at this
   exact this)
  clear hU bn;obtain⟨dn,c8⟩:∃ n,DT.size=n:=⟨_,rfl⟩;have cQ:Hid (dt.length=dn):=hid (by rw[<- c8,size_eq,bA.out]);have a8:standB ⟨p,1,dt,md⟩=(decide (dn<=65536)&&decide (0<=md)&&decide (md<=511)):=by rw[<- cQ.out];exact stand_file p dt md
  cases pb with
  | false =>
   have ab:Hid (Z=(E,11)):=hid (by rw[HZ.out];simp[writeE,refuse,firstE,whenE,aa]);clear aa a8;repeat (first|(go_at_call 86;(with_reducible refine OM.onB (CP.out _) B ?_);intro w2 B;simp only[])|go_skip|go_guarded|go_step|go_upon)
   go_ret;rw[ab.out];exact⟨rfl,ai.out _ _ ((RAft.same ⟨x1,ac.out⟩).later B.out)⟩
  | true =>
   by_cases az:65536<dn
   ·have aw:standB ⟨p,1,dt,md⟩=false:=by rw[a8,decide_eq_false (show ¬ dn<=65536 by omega)];rfl
    have q0:((65536:Int)<dn):=by omega
    have q1:decide ((65536:Int)<dn)=true:=by simpa using q0
    have q2:(65536<dn):=by omega
    have q3:decide (65536<dn)=true:=by simpa using q2
    have ab:Hid (Z=(E,2)):=hid (by rw[HZ.out];simp[writeE,refuse,firstE,whenE,aa,aw]);clear aa a8 aw az;repeat (first|(go_at_call 86;(with_reducible refine OM.onB (CP.out _) B ?_);intro w2 B;simp only[])|go_skip|go_guarded|go_step|go_upon)
    go_ret;rw[ab.out];exact⟨rfl,ai.out _ _ ((RAft.same ⟨x1,ac.out⟩).later B.out)⟩
   ·by_cases hs2:md<0
    ·have aw:standB ⟨p,1,dt,md⟩=false:=by rw[a8,decide_eq_false (show ¬ 0<=md by omega)];simp
     have q0:¬((65536:Int)<dn):=by omega
     have q1:decide ((65536:Int)<dn)=false:=by simpa using q0
     have q2:¬(65536<dn):=by omega
     have q3:decide (65536<dn)=false:=by simpa using q2
     have r1:decide (md<0)=true:=by simpa using hs2
     have ab:Hid (Z=(E,2)):=hid (by rw[HZ.out];simp[writeE,refuse,firstE,whenE,aa,aw]);clear aa a8 aw az;repeat (first|(go_at_call 86;(with_reducible refine OM.onB (CP.out _) B ?_);intro w2 B;simp only[])|go_skip|go_guarded|go_step|go_upon)
     go_ret;rw[ab.out];exact⟨rfl,ai.out _ _ ((RAft.same ⟨x1,ac.out⟩).later B.out)⟩
    ·by_cases a7:511<md
     ·have aw:standB ⟨p,1,dt,md⟩=false:=by rw[a8,decide_eq_false (show ¬ md<=511 by omega)];simp
      have q0:¬((65536:Int)<dn):=by omega
      have q1:decide ((65536:Int)<dn)=false:=by simpa using q0
      have q2:¬(65536<dn):=by omega
      have q3:decide (65536<dn)=false:=by simpa using q2
      have r1:decide (md<0)=false:=by simpa using hs2
      have r2:decide (511<md)=true:=by simpa using a7
      have ab:Hid (Z=(E,2)):=hid (by rw[HZ.out];simp[writeE,refuse,firstE,whenE,aa,aw]);clear aa a8 aw az;repeat (first|(go_at_call 86;(with_reducible refine OM.onB (CP.out _) B ?_);intro w2 B;simp only[])|go_skip|go_guarded|go_step|go_upon)
      go_ret;rw[ab.out];exact⟨rfl,ai.out _ _ ((RAft.same ⟨x1,ac.out⟩).later B.out)⟩
     ·have aw:standB ⟨p,1,dt,md⟩=true:=by rw[a8,decide_eq_true (show dn<=65536 by omega),decide_eq_true (show 0<=md by omega),decide_eq_true (show md<=511 by omega)];rfl
      have q0:¬((65536:Int)<dn):=by omega
      have q1:decide ((65536:Int)<dn)=false:=by simpa using q0
      have q2:¬(65536<dn):=by omega
      have q3:decide (65536<dn)=false:=by simpa using q2
      have r1:decide (md<0)=false:=by simpa using hs2
      have r2:decide (511<md)=false:=by simpa using a7
      have aG:=hid aw;obtain⟨ub,am⟩:∃ b,upB E p=b:=⟨_,rfl⟩;rw[am]at aM
      cases ub with
      | false =>
       have ab:Hid (Z=(E,62)):=hid (by rw[HZ.out];simp[writeE,refuse,firstE,whenE,aa,aw,am]);clear aa a8 aw az am;repeat (first|(go_at_call 86;(with_reducible refine OM.onB (CP.out _) B ?_);intro w2 B;simp only[])|(go_at_call 89;(with_reducible refine OM.onB (bc.out _) B ?_);intro w2 B;simp only[])|(go_at_call 133;(with_reducible refine OM.onB (aM.out _ B.out) B ?_);intro w2 B;simp only[])|go_skip|go_guarded|go_step|go_upon)
       go_ret;rw[ab.out];exact⟨rfl,ai.out _ _ ((RAft.same ⟨x1,ac.out⟩).later B.out)⟩
      | true =>
       clear a8 az;repeat (first|(go_at_call 86;(with_reducible refine OM.onB (CP.out _) B ?_);intro w2 B;simp only[])|(go_at_call 89;(with_reducible refine OM.onB (bc.out _) B ?_);intro w2 B;simp only[])|(go_at_call 133;(with_reducible refine OM.onB (aM.out _ B.out) B ?_);intro w2 B;simp only[])|go_skip|go_guarded|go_step|go_upon)
       refine(bE.out _ B.out).mono ?_;rintro r w3 ⟨z,rfl,a7,bp⟩;simp only[];have B:=hid (Below.trans B.out (bp.mono B.out.size));clear bp;rcases found_at (ac.out.below B.out) aj.out (path_ne aa) a7 with ⟨rfl,ah,b2⟩|⟨k,q0,i,n,ni,g,o,cn,gi,ci,rfl,hf⟩
       ·have cA:(ac.out.below B.out).row=(ac.out.below B.out).row:=rfl;have aH:=(ac.out.below B.out).row;unfold rdC at aH;obtain⟨NN,bN⟩:∃ n,E.names.length=n:=⟨_,rfl⟩;rw[bN]at aH;have bh:=hid aH;have b3:=hid bN;clear cA aH bN a7 b2;repeat (first|go_skip|go_guarded|go_step|go_upon)
        go_quiet (fail);have B4:=hid (Below.trans B.out ((NA.below_drewN (Below.refl w3.heap.size w3) nq).mono B.out.size));have r4:(World.drewN w3 nq).heap[Q]?=_:=((NA.below_drewN (Below.refl w3.heap.size w3) nq).block Q (Array.getElem?_eq_some_iff.1 bh.out).1).trans bh.out;have bk:=hid r4;clear r4;generalize World.drewN w3 nq=w4 at B4 bk ⊢;obtain⟨c0,-,-,-,-,-,c6,-,-,-,-⟩:=row10 bk.out
        cases fb with
        | true =>
         have au:(fateD E).what=2:=of_decide_eq_true bt.out.symm;have ab:Hid (Z=(E,71)):=hid (by rw[HZ.out];simp[writeE,refuse,firstE,whenE,aa,aG.out,am,ah,roomB,au]);clear aa am ah au;repeat (first|go_skip|go_guarded|go_step|go_upon)
         go_ret;rw[ab.out];exact⟨rfl,ai.out _ _ ((RAft.same ⟨x1,ac.out⟩).later B4.out)⟩
        | false =>
         have au:¬(fateD E).what=2:=of_decide_eq_false bt.out.symm;by_cases hfull:1000<=NN
         ·have ab:Hid (Z=(E,71)):=hid (by rw[HZ.out];simp[writeE,refuse,firstE,whenE,aa,aG.out,am,ah,roomB,au,b3.out,hfull]);have bP:(1000:Int)<=(NN:Int):=by omega
          have cP:decide ((1000:Int)<=(NN:Int))=true:=decide_eq_true bP;have bg:decide (1000<=NN)=true:=by simpa using hfull
          clear aa am ah au;repeat (first|go_skip|go_guarded|go_step|go_upon)
          go_ret;rw[ab.out];exact⟨rfl,ai.out _ _ ((RAft.same ⟨x1,ac.out⟩).later B4.out)⟩
         ·have bX:=wrote_new aj.out aa aG.out am ah (by rw[b3.out];omega);have ab:Hid (Z=(changeD (inosR E (E.inos++[⟨(E.clock:Nat),1,md,dt,true⟩])) [en p ((E.inos.length+1:Nat):Int)],0)):=hid (by rw[HZ.out,bX];simp[writeE,refuse,firstE,whenE,aa,aG.out,am,ah,roomB,au,b3.out,hfull]);have bP:¬(1000:Int)<=(NN:Int):=by omega
          have cP:decide ((1000:Int)<=(NN:Int))=false:=decide_eq_false bP;have bg:decide (1000<=NN)=false:=by simpa using hfull
          have cq:∀ y∈E.names,y.path≠p:=by
           rcases aj.out.kind (path_ne aa)with ⟨_,h2⟩|⟨e,_,_,_,_,h2,h3⟩
           ·exact h2
           ·rw[ah]at h2;rcases okI_kind h3 with h4|h4|h4<;>omega
          have bD:=withR_change (D:=E) (p:=p) (i:=⟨(E.clock:Nat),1,md,dt,true⟩) aj.out.names.sorted cq;have bY:Num (m+1) (inosR E (E.inos++[⟨(E.clock:Nat),1,md,dt,true⟩])):=⟨HN.out.clock,HN.out.trace,by have:=HN.out.later;show E.later.length<=_;omega,by have:=HN.out.inos;show(E.inos++[_]).length<=_;rw[length_append,length_singleton];omega,HN.out.edits,HN.out.path,HN.out.long⟩
          have cy:Num (m+1) (withR E p ⟨(E.clock:Nat),1,md,dt,true⟩):=by
           rw[bD];exact⟨HN.out.clock,HN.out.trace,by have:=HN.out.later;show(E.later++[_]).length<=_;rw[length_append,length_singleton];omega,by have:=HN.out.inos;show(E.inos++[_]).length<=_;rw[length_append,length_singleton];omega,HN.out.edits,HN.out.path,HN.out.long⟩
          have cG:=hid bY;have cC:=hid cy;have cV:=hid bD;have b5:Below w4.heap.size w4 (w4.alloc (.cells #[.int .i64 1,.int .i64 md,.int .i64 (E.clock:Nat),.string DT,.bool true] 128)):=(Below.refl _ _).alloc (Nat.le_refl _) _;have B5:=hid (Below.trans B4.out (b5.mono B4.out.size));have CW:=kwith_any w (w4.alloc (.cells #[.int .i64 1,.int .i64 md,.int .i64 (E.clock:Nat),.string DT,.bool true] 128)) T1 Q (m+1) (m+1) E p ⟨(E.clock:Nat),1,md,dt,true⟩ ⟨x1,ac.out.below B5.out⟩ (by have:=aj.out.names.len;omega) hm cG.out cC.out (fun e he=>by have:=((path_iff e.path).1 (aj.out.names.path e he)).1;omega) aN.out;rw[HP.out,cV.out]at CW;unfold riV at CW;simp only at CW;rw[cg.out]at CW;have cI:=hid CW;clear aa am ah au bX hfull cq bD bY cy CW b5;repeat (first|(go_at_call 136;refine cI.out.mono ?_;rintro r w7 ⟨rfl,aI⟩;simp only[];have bj:=hid aI;clear aI)|go_skip|go_guarded|go_step|go_upon)
          go_ret;rw[ab.out];exact⟨rfl,ai.out _ _ (RAft.under B5.out bj.out)⟩
       ·have ah:kindD E p≠0:=by
         rw[hf.knd];rcases okI_kind hf.ok with h|h|h<;>omega
        have aB:=okI_kind hf.ok;have aq:=hf.knd;obtain⟨ik,bz⟩:∃ z,i.kind=z:=⟨_,rfl⟩;rw[bz]at aB aq;have cN:(0:Int)<=(k:Int):=by omega
        have cR:¬(k:Int)<0:=by omega
        have cF:decide ((k:Int)<0)=false:=by simp
        have cB:decide ((0:Int)<=(k:Int))=true:=by simp
        have dd:=hf.qn;have de:=hf.qm;have db:=hf.kn;have c9:=hf.kl;have cp:IntKind.i64.wrap (q0:Int)=(q0:Int):=by rw[IntKind.wrap_i64];omega
        have bW:RowKit.wrap64 (q0:Int)=(q0:Int):=by unfold RowKit.wrap64;omega
        have u0:=hf.n0;have u3:=hf.n3;have ue:=hf.ent;have z0:=cell_regrown u0;have z3:=cell_regrown u3;have ze:=cell_regrown ue;have zk:=hf.c0;rw[bz]at zk;have uk:=zk;have zk:=cell_regrown uk;have HF:=hid hf;have aH:=(ac.out.below B.out).row;unfold rdC at aH;have bh:=hid aH;have cK:=hid bz;obtain⟨kb,bo⟩:∃ b,(ik != 1)=b:=⟨_,rfl⟩;clear hf a7 aH bz;repeat (first|go_skip|go_guarded|go_step|go_upon)
        go_quiet (fail);have b4:=NA.below_drewN (Below.refl w3.heap.size w3) nq;have B4:=hid (Below.trans B.out (b4.mono B.out.size));have aS:=hid (HF.out.below b4);have bk:=hid ((b4.block Q (Array.getElem?_eq_some_iff.1 bh.out).1).trans bh.out);clear z0 z3 ze zk b4 u0 u3 ue uk;generalize World.drewN w3 nq=w4 at B4 aS bk ⊢
        cases kb with
        | true =>
         have aP:ik≠1:=by simpa using bo
         have ab:Hid (Z=(E,73)):=hid (by
          rw[HZ.out];rcases aB with h|h|h
          ·exact absurd h aP
          ·simp[writeE,refuse,firstE,whenE,aa,aG.out,am,aq,h]
          ·simp[writeE,refuse,firstE,whenE,aa,aG.out,am,aq,h])
         clear aa am ah aB aq aP bo;repeat (first|go_skip|go_guarded|go_step|go_upon)
         go_ret;rw[ab.out];exact⟨rfl,ai.out _ _ ((RAft.same ⟨x1,ac.out⟩).later B4.out)⟩
        | false =>
         have aP:ik=1:=by simpa using bo
         rw[aP]at aq
         cases fb with
         | true =>
          have au:(fateD E).what=2:=of_decide_eq_true bt.out.symm;have ab:Hid (Z=(E,71)):=hid (by rw[HZ.out];simp[writeE,refuse,firstE,whenE,aa,aG.out,am,aq,roomB,au]);clear aa am ah au aB aq aP bo;repeat (first|go_skip|go_guarded|go_step|go_upon)
          go_ret;rw[ab.out];exact⟨rfl,ai.out _ _ ((RAft.same ⟨x1,ac.out⟩).later B4.out)⟩
         | false =>
          have au:¬(fateD E).what=2:=of_decide_eq_false bt.out.symm
          have ao:wroteI E dt md i=⟨(E.clock:Nat),1,md,dt,true⟩:=by
           unfold wroteI;obtain⟨a1,a2,a3,a4,a5⟩:=i;have:a2=1:=cK.out.trans aP;subst this;rfl
          have ab:Hid (Z=({ E with inos:=E.inos.set ((q0+1)-1) ⟨(E.clock:Nat),1,md,dt,true⟩ },0)):=hid (by
           rw[HZ.out];have h1:=aS.out.set (wroteI E dt md);rw[ao]at h1;have h2:wroteD E p dt md=setI E p (wroteI E dt md):=by unfold wroteD;rw[if_neg ah]
           rw[h2,h1]
           simp[writeE,refuse,firstE,whenE,aa,aG.out,am,aq,roomB,au])
          obtain⟨-,-,-,-,-,-,c6,-,-,-,-⟩:=row10 bk.out;clear aa am ah au aB aq aP bo ao;repeat (first|go_skip|go_guarded|go_step|go_upon)
          have b6:Below w4.heap.size w4 (w4.alloc (.cells #[.int .i64 1,.int .i64 md,.int .i64 (E.clock:Nat),.string DT,.bool true] 128)):=(Below.refl _ _).alloc (Nat.le_refl _) _;have r6:=heap_alloc_new w4 (.cells #[.int .i64 1,.int .i64 md,.int .i64 (E.clock:Nat),.string DT,.bool true] 128);clear c6;generalize (w4.alloc (.cells #[.int .i64 1,.int .i64 md,.int .i64 (E.clock:Nat),.string DT,.bool true] 128))=w6 at b6 r6 ⊢;have f0:=(aS.out.below b6).n0;have fe:=(aS.out.below b6).ent;obtain⟨s0,s1,s2,s3,s4⟩:=row5 r6;have B6:=hid (Below.trans B4.out (b6.mono B4.out.size));clear b6 r6;refine wp_region_noPanic ?_;with_reducible refine QT.region_mix (S:=fun w'=>w'.cell? ⟨Q,0,none⟩=some (.slice (some ⟨g,o,none⟩) n cn)/\w'.cell? ⟨g,o+k*2+1,none⟩=some (.int .i64 ((q0+1:Nat):Int))/\w'.cell? ⟨w4.heap.size,0,none⟩=some (.int .i64 1)/\w'.cell? ⟨w4.heap.size,1,none⟩=some (.int .i64 md)/\w'.cell? ⟨w4.heap.size,2,none⟩=some (.int .i64 (E.clock:Nat))/\w'.cell? ⟨w4.heap.size,3,none⟩=some (.string DT)/\w'.cell? ⟨w4.heap.size,4,none⟩=some (.bool true)) [(true,0),(true,1),(true,2),(true,3),(true,4),(true,5),(true,6),(true,7),(true,8),(true,9)] 10 (by kernel_rfl) (by kernel_rfl) ?_ ?_ ?_
          ·exact fun _ _ _ _ _ h=>h
          ·exact⟨f0,fe,s0,s1,s2,s3,s4⟩
          intro _;simp only[QT.pickM,List.filterMap_cons,List.filterMap_nil,List.getElem?_cons_succ,List.getElem?_cons_zero,Option.map_some,List.drop_succ_cons,List.drop_zero];iterate 10 (refine QT.wpMix_take _ (by rfl) (by intro w' cJ;obtain⟨y0,y1,y2,y3,y4,y5,y6⟩:=cJ;go_simp;first|done|rfl) ?_;try simp only[Act.put,List.setIfInBounds_toArray,List.set_cons_zero,List.set_cons_succ])
          refine QT.wpMix_nil ?_;have bl:=kset_any w w6.drew T1 Q (m+1) E (q0+1) ⟨(E.clock:Nat),1,md,dt,true⟩ ⟨x1,ac.out.below B6.out.drew⟩ hm (by omega) (by have:=aS.out.len;have:=aS.out.qn;omega);unfold riV at bl;simp only at bl;rw[cg.out]at bl;have bG:=hid bl;clear bl f0 fe s0 s1 s2 s3 s4;repeat (first|go_skip|go_guarded|go_step|go_upon)
          refine bG.out.mono ?_;rintro r w7 ⟨rfl,aI⟩;simp only[];have bj:=hid aI;clear aI;repeat (first|go_skip|go_guarded|go_step|go_upon)
          refine NoPanic.normal ?_;repeat (first|go_skip|go_guarded|go_step|go_upon)
          go_ret;rw[ab.out];exact⟨rfl,ai.out _ _ (RAft.under B6.out.drew bj.out)⟩
 ·have HZ:=hid (aD.out h0);have cH:(er != 0)=true:=by simpa using h0
  have bK:(er==0)=false:=by simpa using h0
  clear aL h0 aW aD aF;repeat (first|go_skip|go_guarded|go_step|go_upon)
  go_ret;rw[HZ.out];exact⟨rfl,ai.out _ _ (RAft.same ⟨x1,ac.out⟩)⟩
end RK
end
end Go.Proofs.YtkmcjededpamnaaGreatDoor
