import Derived.Test.YtkmcjededpamnaaGreatDoorMg15
import Derived.Test.YtkmcjededpamnaaGreatDoorMg14
import Derived.Test.YtkmcjededpamnaaGreatDoorMg21
import Derived.Test.YtkmcjededpamnaaGreatDoorMg3
set_option linter.all false
set_option maxRecDepth 100000
set_option maxHeartbeats 0
namespace Go.Proofs.YtkmcjededpamnaaGreatDoor
open List(length_append length_singleton)
section
open Go.RowKit Go.Lib Go.BigFrame
namespace RK
open OM TP TM DP DM FP DG TG TR
def mvK(ns:List Nd)(p q:List UInt8)(k:Nat):List Nd:=(ns.take k).map (movE p q)
theorem mvK_no{ns:List Nd}{p q:List UInt8}{k:Nat}{e:Nd}(hx:ns[k]?=some e)(h:NP.withinL e.path p=false):mvK ns p q (k+1)=mvK ns p q k++[e]:=by
 unfold mvK;rw[List.take_add_one,hx,Option.toList_some,List.map_append];simp[movE,h]
theorem mvK_yes{ns:List Nd}{p q:List UInt8}{k:Nat}{e:Nd}(hx:ns[k]?=some e)(h:NP.withinL e.path p=true):mvK ns p q (k+1)=mvK ns p q k++[en (q++e.path.drop p.length) e.kind]:=by
 unfold mvK;rw[List.take_add_one,hx,Option.toList_some,List.map_append];simp[movE,h]
theorem mvK_len(ns:List Nd)(p q:List UInt8)(k:Nat):(mvK ns p q k).length<=k:=by
 unfold mvK;rw[List.length_map,List.length_take];omega
theorem kmove_any(w W:World)(T:Nat->Prop)(Q m:Nat)(D:Dk)(p q:List UInt8)(h:RS w W T Q m D)(hv:V D)(hm:m+1<=1000)(hp:p.length<=1048576)(hq:q.length<=1048576) :
  Calls Tryz.prog 80 #[.pointer (some ⟨Q,0,none⟩),txt p,txt q] W fun r W'=>r=.returned (.int .i64 (moveD D p q).2)/\RAft w W T Q (m+1) (moveD D p q).1 W':=by
 obtain⟨P,hP,aX⟩:=txt_of p;obtain⟨O,hO,bZ⟩:=txt_of q;obtain⟨x,hx⟩:=h;obtain⟨E,hE⟩:∃ E,(stepD D ⟨cMove,p,q⟩).1=E:=⟨_,rfl⟩;obtain⟨er,a0⟩:∃ e,(stepD D ⟨cMove,p,q⟩).2=e:=⟨_,rfl⟩;have ar:=step_num hx.num ⟨cMove,p,q⟩
 have CS:Hid (Calls Tryz.prog 132 #[.pointer (some ⟨Q,0,none⟩),.string ⟨#[77,111,118,101]⟩,.string P,.string O] W fun r w'=>(∃ b,r=.returned (.tuple #[.int .i64 er,.bool b])/\(er=0->b=decide ((fateD E).what=2)))/\RAft w W T Q (m+1) E w'):=hid (by
  have:=kstep_any w W T Q m D ⟨cMove,p,q⟩ ⟨x,hx⟩ hv hm;unfold fullB at this;rw[hE,a0]at this;simp only at this;rw[hP]at this;rw[hO]at this
  exact this)
 rw[hE]at ar
 have aE:Hid (er≠0->moveD D p q=(E,er)):=hid (fun h0=>by
  unfold moveD
  rw[after_no (by rw[a0];exact h0),← hE,← a0])
 have aB:Hid (er=0->moveD D p q=if moveE E p q=0 then(if((movedC E p q).any fun e=>!NP.pathL e.path)=true then(E,11)else(changeD E (movedC E p q),0))else(E,moveE E p q)):=hid (fun h0=>by
  unfold moveD
  rw[after_yes (by rw[a0];exact h0),← hE])
 have aj:Hid (V E):=hid (hE ▸ hv.step ⟨cMove,p,q⟩);have HN:=hid ar;have HP:=hid hP;have aO:=hid aX;have aK:=hid hp;have HO:=hid hO;have aU:=hid bZ;have bA:=hid hq;obtain⟨Z,hZ⟩:∃ Z,moveD D p q=Z:=⟨_,rfl⟩;rw[hZ]at aE aB;rw[hZ,hP,hO];clear hx hv hE a0 ar hZ hP aX hp hO bZ hq;go_enter Tryz.func80,Tryz.ntmps80;repeat (first|go_skip|go_guarded|go_step|go_upon)
 refine CS.out.mono ?_;rintro r w1 ⟨⟨fb,rfl,aV⟩,T1,⟨x1,aR⟩,ay,bd⟩;simp only[];have ai:Hid (∀ D' W',RAft w w1 T1 Q (m+1) D' W'->RAft w W T Q (m+1) D' W'):=hid (fun D' W' hh=>RAft.chain ay bd hh);have ab:=hid aR;clear ay bd CS;by_cases h0:er=0
 ·have HZ:=hid (aB.out h0);subst h0;clear aV aE aB;have B:=hid (Below.refl w1.heap.size w1);clear aR;have CP:=hid (fun V=>rpath_txt P p aO.out aK.out V);obtain⟨pb,aa⟩:∃ b,NP.pathL p=b:=⟨_,rfl⟩;rw[aa]at CP;have CQ:=hid (fun V=>rpath_txt O q aU.out bA.out V);obtain⟨qb,ap⟩:∃ b,NP.pathL q=b:=⟨_,rfl⟩;rw[ap]at CQ;have bB:=hid (fun V=>rwithin_txt O P q p aU.out aO.out bA.out aK.out V);obtain⟨wi,aq⟩:∃ b,NP.withinL q p=b:=⟨_,rfl⟩;rw[aq]at bB
  have bH:Hid (∀ V,Below w1.heap.size w1 V->Calls Tryz.prog 134 #[.pointer (some ⟨Q,0,none⟩),.string P] V fun r w'=>∃ z,r=.returned (.int .i64 z)/\FindSays E.names p z/\Below V.heap.size V w'):=hid (fun V hV=>by
   have:=kfind_any w V T1 Q (m+1) E p ⟨x1,ab.out.below hV⟩ aj.out.names.len;rw[HP.out]at this
   exact this)
  have cP:Hid (∀ V,Below w1.heap.size w1 V->Calls Tryz.prog 134 #[.pointer (some ⟨Q,0,none⟩),.string O] V fun r w'=>∃ z,r=.returned (.int .i64 z)/\FindSays E.names q z/\Below V.heap.size V w'):=hid (fun V hV=>by
   have:=kfind_any w V T1 Q (m+1) E q ⟨x1,ab.out.below hV⟩ aj.out.names.len;rw[HO.out]at this
   exact this)
  obtain⟨U,hU,bi⟩:=rparent_txt O q aU.out bA.out;have bc:=hid bi
  have aM:Hid (∀ V,Below w1.heap.size w1 V->Calls Tryz.prog 133 #[.pointer (some ⟨Q,0,none⟩),.string U] V fun r w'=>r=.returned (.bool (upB E q))/\Below V.heap.size V w'):=hid (fun V hV=>by
   have:=kdir_any w V T1 Q (m+1) E (NP.parentL q) ⟨x1,ab.out.below hV⟩ aj.out.fit;rw[show txt (NP.parentL q)=.string U by rw[<- hU,txt_data]]at this
   exact this)
  clear hU bi
  cases pb with
  | false =>
   have ad:moveE E p q=11:=by unfold moveE;simp[firstE,whenE,aa]
   have ac:Hid (Z=(E,11)):=hid (by rw[HZ.out,if_neg (by rw[ad];decide),ad]);clear ad aa ap aq;repeat (first|(go_at_call 86;(with_reducible refine OM.onB (CP.out _) B ?_);intro w2 B;simp only[])|go_skip|go_guarded|go_step|go_upon)
   go_ret;rw[ac.out];exact⟨rfl,ai.out _ _ ((RAft.same ⟨x1,ab.out⟩).later B.out)⟩
  | true =>
   cases qb with
   | false =>
    have ad:moveE E p q=11:=by unfold moveE;simp[firstE,whenE,aa,ap]
    have ac:Hid (Z=(E,11)):=hid (by rw[HZ.out,if_neg (by rw[ad];decide),ad]);clear ad aa ap aq;repeat (first|(go_at_call 86;(with_reducible refine OM.onB (CP.out _) B ?_);intro w2 B;simp only[])|(go_at_call 86;(with_reducible refine OM.onB (CQ.out _) B ?_);intro w2 B;simp only[])|go_skip|go_guarded|go_step|go_upon)
    go_ret;rw[ac.out];exact⟨rfl,ai.out _ _ ((RAft.same ⟨x1,ab.out⟩).later B.out)⟩
   | true =>
    cases wi with
    | true =>
     have ad:moveE E p q=2:=by unfold moveE;simp[firstE,whenE,aa,ap,aq]
     have ac:Hid (Z=(E,2)):=hid (by rw[HZ.out,if_neg (by rw[ad];decide),ad]);clear ad aq aa ap;repeat (first|(go_at_call 86;(with_reducible refine OM.onB (CP.out _) B ?_);intro w2 B;simp only[])|(go_at_call 86;(with_reducible refine OM.onB (CQ.out _) B ?_);intro w2 B;simp only[])|(go_at_call 100;(with_reducible refine OM.onB (bB.out _) B ?_);intro w2 B;simp only[])|go_skip|go_guarded|go_step|go_upon)
     go_ret;rw[ac.out];exact⟨rfl,ai.out _ _ ((RAft.same ⟨x1,ab.out⟩).later B.out)⟩
    | false =>
     repeat (first|(go_at_call 86;(with_reducible refine OM.onB (CP.out _) B ?_);intro w2 B;simp only[])|(go_at_call 86;(with_reducible refine OM.onB (CQ.out _) B ?_);intro w2 B;simp only[])|(go_at_call 100;(with_reducible refine OM.onB (bB.out _) B ?_);intro w2 B;simp only[])|go_skip|go_guarded|go_step|go_upon)
     refine(bH.out _ B.out).mono ?_;rintro r w3 ⟨z,rfl,a9,bh⟩;simp only[];have B:=hid (Below.trans B.out (bh.mono B.out.size));clear bh;rcases found_at (ab.out.below B.out) aj.out (path_ne aa) a9 with ⟨rfl,ah,bM⟩|⟨k,q0,i,n,ni,g,o,cn,gi,ci,rfl,hf⟩
     ·have ad:moveE E p q=74:=by unfold moveE;simp[firstE,whenE,aa,ap,aq,ah]
      have ac:Hid (Z=(E,74)):=hid (by rw[HZ.out,if_neg (by rw[ad];decide),ad]);clear ad aa ap aq ah bM a9;repeat (first|go_skip|go_guarded|go_step|go_upon)
      go_ret;rw[ac.out];exact⟨rfl,ai.out _ _ ((RAft.same ⟨x1,ab.out⟩).later B.out)⟩
     ·have ah:kindD E p≠0:=by
       rw[hf.knd];rcases okI_kind hf.ok with h|h|h<;>omega
      have cJ:¬((k:Int)<0):=by omega
      have cT:=hf.kl;have f0:=hf.n0
      have bj:E.names.length=n:=by
       have hr:=(ab.out.below B.out).row;unfold rdC at hr;obtain⟨r0,-⟩:=row10 hr;rw[f0]at r0;injection r0 with r0;injection r0 with _ r0 _;exact r0.symm
      have aD:=hid bj;have de:n<=1000:=by have:=aj.out.names.len;omega
      have F0:=hid f0;have bg:=hid hf.lt;have ak:=hid (ab.out.below B.out).names
      have bU:x1.an=some ⟨g,o,none⟩:=by
       have hr:=(ab.out.below B.out).row;unfold rdC at hr;obtain⟨r0,-⟩:=row10 hr;rw[f0]at r0;injection r0 with r0;injection r0 with r0 _ _;exact r0.symm
      rw[bU]at ak;clear bj bU f0;clear a9 hf;repeat (first|go_skip|go_guarded|go_step|go_upon)
      refine(cP.out _ B.out).mono ?_;rintro r w3 ⟨z2,rfl,bs,a8⟩;simp only[];have cF:=hid bg.out.1;have bg:=hid (show Q<w3.heap.size/\g<w3.heap.size from⟨Nat.lt_of_lt_of_le bg.out.1 a8.size,Nat.lt_of_lt_of_le bg.out.2.1 a8.size⟩);have F0:=hid ((a8.cell (p:=⟨Q,0,none⟩) cF.out).trans F0.out);have ak:=hid (ak.out.below a8);have B:=hid (Below.trans B.out (a8.mono B.out.size));clear a8;rcases found_at (ab.out.below B.out) aj.out (path_ne ap) bs with ⟨rfl,aQ,ck⟩|⟨k2,q2,i2,n2,dc,g2,o2,cX,db,dh,rfl,bo⟩
      ·obtain⟨c,hc⟩:∃ c,upB E q=c:=⟨_,rfl⟩;rw[hc]at aM
       cases c with
       | false =>
        have ad:moveE E p q=62:=by unfold moveE;simp[firstE,whenE,aa,ap,aq,ah,aQ,hc]
        have ac:Hid (Z=(E,62)):=hid (by rw[HZ.out,if_neg (by rw[ad];decide),ad]);clear ad aa ap aq ah aQ ck bs hc;repeat (first|(go_at_call 133;(with_reducible refine OM.onB (aM.out _ B.out) B ?_);intro w2 B;simp only[])|(go_at_call 89;(with_reducible refine OM.onB (bc.out _) B ?_);intro w2 B;simp only[])|go_skip|go_guarded|go_step|go_upon)
        go_ret;rw[ac.out];exact⟨rfl,ai.out _ _ ((RAft.same ⟨x1,ab.out⟩).later B.out)⟩
       | true =>
        have ad:Hid (moveE E p q=0):=hid (by unfold moveE;simp[firstE,whenE,aa,ap,aq,ah,aQ,hc]);have b3:=hid ap;clear aa ap aq ah aQ ck bs hc;have BF:=hid (Below.refl w3.heap.size w3);have B3:=hid B.out;repeat (first|(go_at_call 89;(with_reducible refine(bc.out _).mono ?_);rintro r w2 ⟨rfl,aN⟩;simp only[];have B:=hid (Below.trans B.out (aN.mono B.out.size));have BF:=hid (Below.trans BF.out (aN.mono BF.out.size));clear aN)|(go_at_call 133;(with_reducible refine(aM.out _ B.out).mono ?_);rintro r w2 ⟨rfl,aN⟩;simp only[];have B:=hid (Below.trans B.out (aN.mono B.out.size));have BF:=hid (Below.trans BF.out (aN.mono BF.out.size));clear aN)|go_skip|go_guarded|go_step|go_upon)
        obtain⟨i1,cq,cg,bR,cp⟩:=info_parts infoRE;repeat (first|go_skip|go_guarded|go_step|go_upon)
        go_loopw [9,10] (fun s9 s10 wr=>∃ j:Nat,s10=.int .i64 j/\j<=n/\wr.ownsRow w3.heap.size 130 2 s9 (mvK E.names p q j).length (resC (mvK E.names p q j))/\Below w3.heap.size w3 wr/\∀(a:Nat) (e:Nd),a<j->E.names[a]?=some e->NP.withinL e.path p=true->NP.pathL (q++e.path.drop p.length)=true) (fun _ s10 _=>n-(RowKit.intOf s10).toNat)
        case atStart=>exact⟨0,rfl,Nat.zero_le _,World.ownsRow_nil _ _ _ _,BF.out,fun a e ha=>by omega⟩
        case round =>
         obtain⟨j,rfl,hj,ho,hb,aZ⟩:=hrel;have bv:=hid ho;have HB:=hid hb;have aP:=hid aZ;have cc:=hb.size;have aT:=hid (mvK_len E.names p q j);have c0:=(hb.cell (p:=⟨Q,0,none⟩) bg.out.1).trans F0.out;have aY:=ak.out.below hb;clear ho hb aZ;by_cases hlt:j<n
         ·have cS:(j:Int)<n:=by omega
          obtain⟨g2,o2,bP,_,_,_,hc⟩:=aY (by have:=aD.out;omega);injection bP with bP;injection bP with hg2 ho2 _;subst hg2 ho2;obtain⟨e,hx⟩:∃ x,E.names[j]?=some x:=⟨_,List.getElem?_eq_getElem (by rw[aD.out];exact hlt)⟩;obtain⟨c1,c2⟩:=hc j e hx;obtain⟨X,hX,aW⟩:=txt_of e.path;obtain⟨kd,ao⟩:∃ z,e.kind=z:=⟨_,rfl⟩;rw[hX]at c1;rw[ao]at c2;have br:=aj.out.names.path e (List.mem_of_getElem? hx);have bF:=((path_iff e.path).1 br).1;obtain⟨bw,aF⟩:∃ b,NP.withinL e.path p=b:=⟨_,rfl⟩;have co:=hid (fun V=>rwithin_txt X P e.path p aW aO.out (by omega) aK.out V);rw[aF]at co;have b0:Below wr.heap.size wr (wr.alloc (.cells #[.string X,.int .i64 kd] 130)):=(Below.refl _ _).alloc (Nat.le_refl _) _;have r0:=heap_alloc_new wr (.cells #[.string X,.int .i64 kd] 130);have B0:=hid b0;have R0:=hid r0;clear b0 r0;repeat (first|go_skip|go_guarded|go_step|go_upon)
          refine(co.out _).mono ?_;rintro r w4 ⟨rfl,a8⟩;simp only[];have R4:=hid ((a8.block _ (Array.getElem?_eq_some_iff.1 R0.out).1).trans R0.out);have B4:=hid (Below.trans B0.out (a8.mono B0.out.size));have bD:=hid (owns_below bv.out B4.out);have bz:Hid (Below w3.heap.size w3 w4):=hid (Below.trans HB.out (B4.out.mono cc));have df:=bz.out.size;clear a8;obtain⟨t0,t1,tf⟩:=row2 R4.out
          cases bw with
          | false =>
           have HK:=hid (mvK_no (q:=q) hx aF)
           have ax:Hid (∀(a:Nat) (e:Nd),a<j+1->E.names[a]?=some e->NP.withinL e.path p=true->NP.pathL (q++e.path.drop p.length)=true):=hid (fun a e' ha av hw=>by
            by_cases h:a<j
            ·exact aP.out a e' h av hw
            ·have:a=j:=by omega
             subst this;rw[hx]at av;injection av with av;rw[<- av,aF]at hw
             cases hw)
           have bG:Hid (∀(W:World) (j:Nat) (u:Value),(reC e)[j]?=some u->(W.alloc (.cells #[.string X,.int .i64 kd] 130)).cell? ((⟨W.heap.size,0,none⟩:Addr).add j)=some u):=hid (fun W=>re_new W e _ _ hX ao);clear hc hx hX aW aY hlt ao br bF aF
           repeat (first
            | (at_builtin;refine wpList_append_own _ rfl _ _ 53 rfl w3.heap.size 130 i1 (.agg #[.string ⟨#[]⟩,.int .i64 0]) 2 24 Tryz.underlying53 cq cg bR cp rfl (by decide) _ _ _ rfl (bD.out.alloc _) ⟨w4.heap.size,0,none⟩ 1 1 (reC e) rfl rfl (bG.out _) (re_one _) (by have:=aT.out;unfold maxLen;omega) (by have:=aT.out;omega) (by simp;omega) ?_;intro v' w8 al ag az;have bE:=hid al;have b8:Hid (Below w3.heap.size w3 w8):=hid ((bz.out.alloc (by have:=bz.out.size;omega) _).grown ag (by simp;omega) (fun j hj=>(bD.out.lt j hj).1));clear al ag az)
            | go_skip|go_guarded|go_step|go_upon)
           refine⟨⟨j+1,by go_num,by omega,?_,b8.out,ax.out⟩,by simp[RowKit.intOf];omega⟩;rw[HK.out,length_append,length_singleton,res_snoc];exact bE.out
          | true =>
           have cN:=within_len aF;have c7:P.size=p.length:=by rw[size_eq,aO.out]
           obtain⟨lp,cQ⟩:∃ z,P.size=z:=⟨_,rfl⟩;have be:p.length=lp:=by rw[<- c7,cQ]
           have cW:=TR.str_from X lp lp rfl (by rw[size_eq,aW,← be];exact cN);obtain⟨X2,bY,aC⟩:=txt_of (X.data.toList.drop lp);rw[bY]at cW;rw[aW,← be]at aC;have dg:O.size=q.length:=by rw[size_eq,aU.out]
           have cZ:q.length<=400:=((path_iff q).1 b3.out).1;have cM:X2.size<=400:=by rw[size_eq,aC,List.length_drop];omega
           have cU:¬ 9223372036854775807<O.size+X2.size:=by omega
           have cb:=DG.txt_app q (e.path.drop p.length) O X2 aU.out aC;obtain⟨Y,hY⟩:∃ Y,O++X2=Y:=⟨_,rfl⟩
           have bV:Y.data.toList=q++e.path.drop p.length:=by
            rw[<- hY];simp[aU.out,aC]
           have ca:=hid (fun V=>rpath_txt Y (q++e.path.drop p.length) bV (by rw[length_append,List.length_drop];omega) V);obtain⟨yb,bf⟩:∃ b,NP.pathL (q++e.path.drop p.length)=b:=⟨_,rfl⟩;rw[bf]at ca;have cv:txt (q++e.path.drop p.length)=.string Y:=by rw[<- hY];exact cb.symm
           clear cb bY;repeat (first|go_skip|go_guarded|go_step|go_upon)
           try rw[hY]
           have cx:Hid (Out (fun k=>k=wr.heap.size) w4 (w4.setCell ⟨wr.heap.size,0,none⟩ (.string Y))):=hid ((Out.refl (fun k=>k=wr.heap.size) w4).setCell (p:=⟨wr.heap.size,0,none⟩) (fun _=>rfl) _);have R5:Hid ((w4.setCell ⟨wr.heap.size,0,none⟩ (.string Y)).heap[wr.heap.size]?=some (.cells #[.string Y,.int .i64 kd] 130 (0,0))):=hid (row_set (j:=0) R4.out (.string Y));have b7:Hid (Below w3.heap.size w3 (w4.setCell ⟨wr.heap.size,0,none⟩ (.string Y))):=hid (bz.out.setCell (p:=⟨wr.heap.size,0,none⟩) cc _);have cy:Hid ((w4.setCell ⟨wr.heap.size,0,none⟩ (.string Y)).ownsRow w3.heap.size 130 2 u9 (mvK E.names p q j).length (resC (mvK E.names p q j))):=hid (cx.out.owns bD.out (fun g hg h=>by have:=(bv.out.lt g hg).2;omega));generalize (w4.setCell ⟨wr.heap.size,0,none⟩ (.string Y))=w5 at cx R5 b7 cy ⊢;refine(ca.out _).mono ?_;rintro r w6 ⟨rfl,bx⟩;simp only[];have bu:Hid (Below w3.heap.size w3 w6):=hid (Below.trans b7.out (bx.mono b7.out.size));have cd:=hid (owns_below cy.out bx);have R6:=hid ((bx.block _ (Array.getElem?_eq_some_iff.1 R5.out).1).trans R5.out);have da:=bu.out.size;clear bx t0 t1 tf;obtain⟨t0,t1,tf⟩:=row2 R6.out
           cases yb with
           | false =>
            have ac:Hid (Z=(E,11)):=hid (by
             have h1:((movedC E p q).any fun e=>!NP.pathL e.path)=true:=by
              unfold movedC;rw[List.any_append,Bool.or_eq_true];right;rw[List.any_eq_true];exact⟨en (q++e.path.drop p.length) e.kind,List.mem_map.2 ⟨e,List.mem_filter.2 ⟨List.mem_of_getElem? hx,aF⟩,rfl⟩,by show(!NP.pathL (q++e.path.drop p.length))=true;rw[bf];rfl⟩
             rw[HZ.out,if_pos ad.out,if_pos h1])
            clear hc hx hX aW aY hlt ao br bF aF bf;repeat (first|go_skip|go_guarded|go_step|go_upon)
            go_ret;rw[ac.out];exact⟨rfl,ai.out _ _ ((RAft.same ⟨x1,ab.out⟩).later (Below.trans B3.out (bu.out.mono B3.out.size)))⟩
           | true =>
            have HK:=hid (mvK_yes (q:=q) hx aF)
            have ax:Hid (∀(a:Nat) (e:Nd),a<j+1->E.names[a]?=some e->NP.withinL e.path p=true->NP.pathL (q++e.path.drop p.length)=true):=hid (fun a e' ha av hw=>by
             by_cases h:a<j
             ·exact aP.out a e' h av hw
             ·have:a=j:=by omega
              subst this;rw[hx]at av;injection av with av;rw[<- av]
              exact bf)
            have bG:Hid (∀(W:World) (j:Nat) (u:Value),(reC (en (q++e.path.drop p.length) e.kind))[j]?=some u->(W.alloc (.cells #[.string Y,.int .i64 kd] 130)).cell? ((⟨W.heap.size,0,none⟩:Addr).add j)=some u):=hid (fun W=>re_new W (en (q++e.path.drop p.length) e.kind) _ _ cv ao);clear hc hx hX aW aY hlt ao br bF aF bf cv bV
            repeat (first
             | (at_builtin;refine wpList_append_own _ rfl _ _ 53 rfl w3.heap.size 130 i1 (.agg #[.string ⟨#[]⟩,.int .i64 0]) 2 24 Tryz.underlying53 cq cg bR cp rfl (by decide) _ _ _ rfl (cd.out.alloc _) ⟨w6.heap.size,0,none⟩ 1 1 (reC (en (q++e.path.drop p.length) e.kind)) rfl rfl (bG.out _) (re_one _) (by have:=aT.out;unfold maxLen;omega) (by have:=aT.out;omega) (by simp;omega) ?_;intro v' w8 al ag az;have bE:=hid al;have b8:Hid (Below w3.heap.size w3 w8):=hid ((bu.out.alloc (by have:=bu.out.size;omega) _).grown ag (by simp;omega) (fun j hj=>(cd.out.lt j hj).1));clear al ag az)
             | go_skip|go_guarded|go_step|go_upon)
            refine⟨⟨j+1,by go_num,by omega,?_,b8.out,ax.out⟩,by simp[RowKit.intOf];omega⟩;rw[HK.out,length_append,length_singleton,res_snoc];exact bE.out
         ·have cS:¬(j:Int)<n:=by omega
          have di:j=n:=by omega
          have aJ:((movedC E p q).any fun e=>!NP.pathL e.path)=false:=by
           rw[List.any_eq_false];intro x hx;unfold movedC at hx;rcases List.mem_append.1 hx with hx|hx
           ·obtain⟨e,he,rfl⟩:=List.mem_map.1 hx;have h1:=aj.out.names.path e (List.mem_filter.1 he).1;show ¬(!NP.pathL e.path)=true;rw[h1];simp
           ·obtain⟨e,he,rfl⟩:=List.mem_map.1 hx;obtain⟨h1,h2⟩:=List.mem_filter.1 he;obtain⟨a,ha,av⟩:=List.getElem_of_mem h1;have h3:=aP.out a e (by have:=aD.out;omega) (by rw[List.getElem?_eq_getElem ha,av]) h2;show ¬(!NP.pathL (q++e.path.drop p.length))=true;rw[h3];simp
          have aA:=aj.out.moveOk ad.out aJ
          have cz:mvK E.names p q j=movL E p q:=by
           unfold mvK movL;rw[List.take_of_length_le (by rw[aD.out];omega)]
          have cr:(movL E p q).length=E.names.length:=by unfold movL;rw[List.length_map]
          have ac:Hid (Z=(changeD E (movedC E p q),0)):=hid (by rw[HZ.out,if_pos ad.out,if_neg (by rw[aJ];exact Bool.false_ne_true)])
          have bO:chgR E (sortK (movL E p q) (movL E p q).length)=changeD E (movedC E p q):=by
           unfold chgR changeD;rw[cr,movL_names aj.out aA]
          have ba:∀ e∈movL E p q,e.path.length<=1048576:=fun x hx=>by
           unfold movL movE at hx;obtain⟨e,he,rfl⟩:=List.mem_map.1 hx;by_cases hw:NP.withinL e.path p=true
           ·rw[if_pos hw];have:=((path_iff _).1 (aA.all e he hw)).1;show(q++e.path.drop p.length).length<=_;omega
           ·rw[if_neg hw];have:=((path_iff e.path).1 (aj.out.names.path e he)).1;omega
          rw[cz]at bv aT;have B6:Hid (Below w1.heap.size w1 wr):=hid (Below.trans B3.out (HB.out.mono B3.out.size));have c5:=bv.out;obtain⟨a6,c6,b1,bT⟩:=layR_own (T:=fun _=>True) c5 (fun _ _=>trivial);subst b1;have CC:=kchanged_any w wr T1 Q (m+1) (m+1) E (movL E p q) a6 c6 ⟨x1,ab.out.below B6.out⟩ (fun _=>True) bT (by have:=aT.out;omega) ba hm (by rw[bO];exact HN.out.change _);rw[bO]at CC;have cu:=hid CC;obtain⟨n6,ct⟩:∃ n,(movL E p q).length=n:=⟨_,rfl⟩;rw[ct]at cu ⊢;clear bT c5 CC bO ba ct cz cr aA aJ hlt aY;repeat (first|(go_at_call 138;refine cu.out.mono ?_;rintro r w7 ⟨rfl,aG⟩;simp only[];have bp:=hid aG;clear aG)|go_skip|go_guarded|go_step|go_upon)
          go_ret;rw[ac.out];exact⟨rfl,ai.out _ _ (RAft.under B6.out bp.out)⟩
      ·have aQ:kindD E q≠0:=by
        rw[bo.knd];rcases okI_kind bo.ok with h|h|h<;>omega
       have dj:(0:Int)<=(k2:Int):=by omega
       have cI:decide ((0:Int)<=(k2:Int))=true:=by simp
       have ad:moveE E p q=72:=by unfold moveE;simp[firstE,whenE,aa,ap,aq,ah,aQ]
       have ac:Hid (Z=(E,72)):=hid (by rw[HZ.out,if_neg (by rw[ad];decide),ad]);clear ad aa ap aq ah aQ bs bo;repeat (first|go_skip|go_guarded|go_step|go_upon)
       go_ret;rw[ac.out];exact⟨rfl,ai.out _ _ ((RAft.same ⟨x1,ab.out⟩).later B.out)⟩
 ·have HZ:=hid (aE.out h0);have cK:(er != 0)=true:=by simpa using h0
  have bJ:(er==0)=false:=by simpa using h0
  clear aR h0 aV aE aB;repeat (first|go_skip|go_guarded|go_step|go_upon)
  go_ret;rw[HZ.out];exact⟨rfl,ai.out _ _ (RAft.same ⟨x1,ab.out⟩)⟩
end RK
end
section
open Go.RowKit Go.Lib Go.BigFrame
namespace RK
open OM TP TM DP DM FP DG TG TR
theorem stand_file(p dt:List UInt8)(md:Int):standB ⟨p,1,dt,md⟩=(decide (dt.length<=65536)&&decide (0<=md)&&decide (md<=511)):=by
 unfold standB rightV rightB;simp
theorem wrote_new{E:Dk}(h:V E){p dt:List UInt8}{md:Int}(hp:NP.pathL p=true)(hs:standB ⟨p,1,dt,md⟩=true)(hu:upB E p=true)(h0:kindD E p=0)(hl:E.names.length<1000) :
  wroteD E p dt md=changeD (inosR E (E.inos++[⟨(E.clock:Nat),1,md,dt,true⟩])) [en p ((E.inos.length+1:Nat):Int)]:=by
 have hv:=h.laid_all (n:=⟨p,1,dt,md⟩) hp (stand_right hs) hu h0 hl
 have hr:Row (E.inos.length+1) (changeD (freshD E ⟨p,1,dt,md⟩) [freshE E ⟨p,1,dt,md⟩]).names:=by
  have h1:=hv.names.row
  have h2:(laidD E ⟨p,1,dt,md⟩).inos.length=E.inos.length+1:=by
   show(E.inos++[_]).length=_;simp
  rw[h2]at h1;exact h1
 have hf:=find_laid hr;unfold wroteD;rw[if_pos h0];rw[setI_some _ hf];have hk:(freshE E ⟨p,1,dt,md⟩).kind=((E.inos.length+1:Nat):Int):=rfl
 have hi:inoOf (changeD (freshD E ⟨p,1,dt,md⟩) [freshE E ⟨p,1,dt,md⟩]).inos (freshE E ⟨p,1,dt,md⟩).kind=freshI E ⟨p,1,dt,md⟩:=by
  rw[hk];show inoOf (E.inos++[freshI E ⟨p,1,dt,md⟩]) ((E.inos.length+1:Nat):Int)=_;unfold inoOf;rw[List.getD_eq_getElem?_getD,show((E.inos.length+1:Nat):Int).toNat-1=E.inos.length by omega,List.getElem?_append_right (Nat.le_refl _),Nat.sub_self];rfl
 rw[hi,hk,show((E.inos.length+1:Nat):Int).toNat-1=E.inos.length by omega];show({ changeD (freshD E ⟨p,1,dt,md⟩) [freshE E ⟨p,1,dt,md⟩]with inos:=(E.inos++[freshI E ⟨p,1,dt,md⟩]).set E.inos.length (wroteI E dt md (freshI E ⟨p,1,dt,md⟩)) }:Dk)=_;rw[List.set_append_right _ _ (Nat.le_refl _),Nat.sub_self];rfl
theorem kwrite_any(w W:World)(T:Nat->Prop)(Q m:Nat)(D:Dk)(p dt:List UInt8)(md:Int)(h:RS w W T Q m D)(hv:V D)(hm:m+1<=1000)(hp:p.length<=1048576) :
  Calls Tryz.prog 76 #[.pointer (some ⟨Q,0,none⟩),txt p,txt dt,.int .i64 md] W fun r W'=>r=.returned (.int .i64 (writeD D p dt md).2)/\RAft w W T Q (m+1) (writeD D p dt md).1 W':=by
 obtain⟨P,hP,aX⟩:=txt_of p;obtain⟨DT,b9,bn⟩:=txt_of dt;have bC:=hid bn;have bS:=hid b9;rw[b9];clear b9 bn;obtain⟨x,hx⟩:=h;obtain⟨E,hE⟩:∃ E,(stepD D ⟨cWrite,p,[]⟩).1=E:=⟨_,rfl⟩;obtain⟨er,a0⟩:∃ e,(stepD D ⟨cWrite,p,[]⟩).2=e:=⟨_,rfl⟩;have ar:=step_num hx.num ⟨cWrite,p,[]⟩
 have CS:Hid (Calls Tryz.prog 132 #[.pointer (some ⟨Q,0,none⟩),.string ⟨#[87,114,105,116,101]⟩,.string P,.string ⟨#[]⟩] W fun r w'=>(∃ b,r=.returned (.tuple #[.int .i64 er,.bool b])/\(er=0->b=decide ((fateD E).what=2)))/\RAft w W T Q (m+1) E w'):=hid (by
  have:=kstep_any w W T Q m D ⟨cWrite,p,[]⟩ ⟨x,hx⟩ hv hm;unfold fullB at this;rw[hE,a0]at this;simp only at this;rw[hP]at this
  exact this)
 rw[hE]at ar
 have aE:Hid (er≠0->writeD D p dt md=(E,er)):=hid (fun h0=>by
  unfold writeD
  rw[after_no (by rw[a0];exact h0),← hE,← a0])
 have aB:Hid (er=0->writeD D p dt md=refuse (writeE E p dt md) E (wroteD E p dt md)):=hid (fun h0=>by
  unfold writeD
  rw[after_yes (by rw[a0];exact h0),← hE])
 have aj:Hid (V E):=hid (hE ▸ hv.step ⟨cWrite,p,[]⟩);have HN:=hid ar;have HP:=hid hP;have aO:=hid aX;have aK:=hid hp;obtain⟨Z,hZ⟩:∃ Z,writeD D p dt md=Z:=⟨_,rfl⟩;rw[hZ]at aE aB;rw[hZ,hP];clear hx hv hE a0 ar hZ hP aX hp;go_enter Tryz.func76,Tryz.ntmps76;repeat (first|go_skip|go_guarded|go_step|go_upon)
 refine CS.out.mono ?_;rintro r w1 ⟨⟨fb,rfl,aV⟩,T1,⟨x1,aR⟩,ay,bd⟩;simp only[];have ai:Hid (∀ D' W',RAft w w1 T1 Q (m+1) D' W'->RAft w W T Q (m+1) D' W'):=hid (fun D' W' hh=>RAft.chain ay bd hh);have ab:=hid aR;clear ay bd CS;by_cases h0:er=0
 ·have HZ:=hid (aB.out h0);have bt:=hid (aV h0);subst h0;clear aV aE aB;have B:=hid (Below.refl w1.heap.size w1);clear aR;have CP:=hid (fun V=>rpath_txt P p aO.out aK.out V);obtain⟨pb,aa⟩:∃ b,NP.pathL p=b:=⟨_,rfl⟩;rw[aa]at CP
  have bH:Hid (∀ V,Below w1.heap.size w1 V->Calls Tryz.prog 134 #[.pointer (some ⟨Q,0,none⟩),.string P] V fun r w'=>∃ z,r=.returned (.int .i64 z)/\FindSays E.names p z/\Below V.heap.size V w'):=hid (fun V hV=>by
   have:=kfind_any w V T1 Q (m+1) E p ⟨x1,ab.out.below hV⟩ aj.out.names.len;rw[HP.out]at this
   exact this)
  obtain⟨U,hU,bi⟩:=rparent_txt P p aO.out aK.out;have bc:=hid bi
  have aM:Hid (∀ V,Below w1.heap.size w1 V->Calls Tryz.prog 133 #[.pointer (some ⟨Q,0,none⟩),.string U] V fun r w'=>r=.returned (.bool (upB E p))/\Below V.heap.size V w'):=hid (fun V hV=>by
   have:=kdir_any w V T1 Q (m+1) E (NP.parentL p) ⟨x1,ab.out.below hV⟩ aj.out.fit;rw[show txt (NP.parentL p)=.string U by rw[<- hU,txt_data]]at this
   exact this)
  clear hU bi;obtain⟨dn,cG⟩:∃ n,DT.size=n:=⟨_,rfl⟩;have cH:Hid (dt.length=dn):=hid (by rw[<- cG,size_eq,bC.out]);have a7:standB ⟨p,1,dt,md⟩=(decide (dn<=65536)&&decide (0<=md)&&decide (md<=511)):=by rw[<- cH.out];exact stand_file p dt md
  cases pb with
  | false =>
   have ac:Hid (Z=(E,11)):=hid (by rw[HZ.out];simp[writeE,refuse,firstE,whenE,aa]);clear aa a7;repeat (first|(go_at_call 86;(with_reducible refine OM.onB (CP.out _) B ?_);intro w2 B;simp only[])|go_skip|go_guarded|go_step|go_upon)
   go_ret;rw[ac.out];exact⟨rfl,ai.out _ _ ((RAft.same ⟨x1,ab.out⟩).later B.out)⟩
  | true =>
   by_cases ay:65536<dn
   ·have aw:standB ⟨p,1,dt,md⟩=false:=by rw[a7,decide_eq_false (show ¬ dn<=65536 by omega)];rfl
    have q0:((65536:Int)<dn):=by omega
    have q1:decide ((65536:Int)<dn)=true:=by simpa using q0
    have q2:(65536<dn):=by omega
    have q3:decide (65536<dn)=true:=by simpa using q2
    have ac:Hid (Z=(E,2)):=hid (by rw[HZ.out];simp[writeE,refuse,firstE,whenE,aa,aw]);clear aa a7 aw ay;repeat (first|(go_at_call 86;(with_reducible refine OM.onB (CP.out _) B ?_);intro w2 B;simp only[])|go_skip|go_guarded|go_step|go_upon)
    go_ret;rw[ac.out];exact⟨rfl,ai.out _ _ ((RAft.same ⟨x1,ab.out⟩).later B.out)⟩
   ·by_cases hs2:md<0
    ·have aw:standB ⟨p,1,dt,md⟩=false:=by rw[a7,decide_eq_false (show ¬ 0<=md by omega)];simp
     have q0:¬((65536:Int)<dn):=by omega
     have q1:decide ((65536:Int)<dn)=false:=by simpa using q0
     have q2:¬(65536<dn):=by omega
     have q3:decide (65536<dn)=false:=by simpa using q2
     have r1:decide (md<0)=true:=by simpa using hs2
     have ac:Hid (Z=(E,2)):=hid (by rw[HZ.out];simp[writeE,refuse,firstE,whenE,aa,aw]);clear aa a7 aw ay;repeat (first|(go_at_call 86;(with_reducible refine OM.onB (CP.out _) B ?_);intro w2 B;simp only[])|go_skip|go_guarded|go_step|go_upon)
     go_ret;rw[ac.out];exact⟨rfl,ai.out _ _ ((RAft.same ⟨x1,ab.out⟩).later B.out)⟩
    ·by_cases a9:511<md
     ·have aw:standB ⟨p,1,dt,md⟩=false:=by rw[a7,decide_eq_false (show ¬ md<=511 by omega)];simp
      have q0:¬((65536:Int)<dn):=by omega
      have q1:decide ((65536:Int)<dn)=false:=by simpa using q0
      have q2:¬(65536<dn):=by omega
      have q3:decide (65536<dn)=false:=by simpa using q2
      have r1:decide (md<0)=false:=by simpa using hs2
      have r2:decide (511<md)=true:=by simpa using a9
      have ac:Hid (Z=(E,2)):=hid (by rw[HZ.out];simp[writeE,refuse,firstE,whenE,aa,aw]);clear aa a7 aw ay;repeat (first|(go_at_call 86;(with_reducible refine OM.onB (CP.out _) B ?_);intro w2 B;simp only[])|go_skip|go_guarded|go_step|go_upon)
      go_ret;rw[ac.out];exact⟨rfl,ai.out _ _ ((RAft.same ⟨x1,ab.out⟩).later B.out)⟩
     ·have aw:standB ⟨p,1,dt,md⟩=true:=by rw[a7,decide_eq_true (show dn<=65536 by omega),decide_eq_true (show 0<=md by omega),decide_eq_true (show md<=511 by omega)];rfl
      have q0:¬((65536:Int)<dn):=by omega
      have q1:decide ((65536:Int)<dn)=false:=by simpa using q0
      have q2:¬(65536<dn):=by omega
      have q3:decide (65536<dn)=false:=by simpa using q2
      have r1:decide (md<0)=false:=by simpa using hs2
      have r2:decide (511<md)=false:=by simpa using a9
      have aH:=hid aw;obtain⟨ub,am⟩:∃ b,upB E p=b:=⟨_,rfl⟩;rw[am]at aM
      cases ub with
      | false =>
       have ac:Hid (Z=(E,62)):=hid (by rw[HZ.out];simp[writeE,refuse,firstE,whenE,aa,aw,am]);clear aa a7 aw ay am;repeat (first|(go_at_call 86;(with_reducible refine OM.onB (CP.out _) B ?_);intro w2 B;simp only[])|(go_at_call 89;(with_reducible refine OM.onB (bc.out _) B ?_);intro w2 B;simp only[])|(go_at_call 133;(with_reducible refine OM.onB (aM.out _ B.out) B ?_);intro w2 B;simp only[])|go_skip|go_guarded|go_step|go_upon)
       go_ret;rw[ac.out];exact⟨rfl,ai.out _ _ ((RAft.same ⟨x1,ab.out⟩).later B.out)⟩
      | true =>
       clear a7 ay;repeat (first|(go_at_call 86;(with_reducible refine OM.onB (CP.out _) B ?_);intro w2 B;simp only[])|(go_at_call 89;(with_reducible refine OM.onB (bc.out _) B ?_);intro w2 B;simp only[])|(go_at_call 133;(with_reducible refine OM.onB (aM.out _ B.out) B ?_);intro w2 B;simp only[])|go_skip|go_guarded|go_step|go_upon)
       refine(bH.out _ B.out).mono ?_;rintro r w3 ⟨z,rfl,a9,bh⟩;simp only[];have B:=hid (Below.trans B.out (bh.mono B.out.size));clear bh;rcases found_at (ab.out.below B.out) aj.out (path_ne aa) a9 with ⟨rfl,ah,bM⟩|⟨k,q0,i,n,ni,g,o,cn,gi,ci,rfl,hf⟩
       ·have cC:(ab.out.below B.out).row=(ab.out.below B.out).row:=rfl;have aI:=(ab.out.below B.out).row;unfold rdC at aI;obtain⟨NN,bL⟩:∃ n,E.names.length=n:=⟨_,rfl⟩;rw[bL]at aI;have bk:=hid aI;have b2:=hid bL;clear cC aI bL a9 bM;repeat (first|go_skip|go_guarded|go_step|go_upon)
        go_quiet (fail);have B4:=hid (Below.trans B.out ((NA.below_drewN (Below.refl w3.heap.size w3) nq).mono B.out.size));have r4:(World.drewN w3 nq).heap[Q]?=_:=((NA.below_drewN (Below.refl w3.heap.size w3) nq).block Q (Array.getElem?_eq_some_iff.1 bk.out).1).trans bk.out;have bm:=hid r4;clear r4;generalize World.drewN w3 nq=w4 at B4 bm ⊢;obtain⟨c0,-,-,-,-,-,c6,-,-,-,-⟩:=row10 bm.out
        cases fb with
        | true =>
         have au:(fateD E).what=2:=of_decide_eq_true bt.out.symm;have ac:Hid (Z=(E,71)):=hid (by rw[HZ.out];simp[writeE,refuse,firstE,whenE,aa,aH.out,am,ah,roomB,au]);clear aa am ah au;repeat (first|go_skip|go_guarded|go_step|go_upon)
         go_ret;rw[ac.out];exact⟨rfl,ai.out _ _ ((RAft.same ⟨x1,ab.out⟩).later B4.out)⟩
        | false =>
         have au:¬(fateD E).what=2:=of_decide_eq_false bt.out.symm;by_cases hfull:1000<=NN
         ·have ac:Hid (Z=(E,71)):=hid (by rw[HZ.out];simp[writeE,refuse,firstE,whenE,aa,aH.out,am,ah,roomB,au,b2.out,hfull]);have bI:(1000:Int)<=(NN:Int):=by omega
          have cB:decide ((1000:Int)<=(NN:Int))=true:=decide_eq_true bI;have bo:decide (1000<=NN)=true:=by simpa using hfull
          clear aa am ah au;repeat (first|go_skip|go_guarded|go_step|go_upon)
          go_ret;rw[ac.out];exact⟨rfl,ai.out _ _ ((RAft.same ⟨x1,ab.out⟩).later B4.out)⟩
         ·have bQ:=wrote_new aj.out aa aH.out am ah (by rw[b2.out];omega);have ac:Hid (Z=(changeD (inosR E (E.inos++[⟨(E.clock:Nat),1,md,dt,true⟩])) [en p ((E.inos.length+1:Nat):Int)],0)):=hid (by rw[HZ.out,bQ];simp[writeE,refuse,firstE,whenE,aa,aH.out,am,ah,roomB,au,b2.out,hfull]);have bI:¬(1000:Int)<=(NN:Int):=by omega
          have cB:decide ((1000:Int)<=(NN:Int))=false:=decide_eq_false bI;have bo:decide (1000<=NN)=false:=by simpa using hfull
          have bW:∀ y∈E.names,y.path≠p:=by
           rcases aj.out.kind (path_ne aa)with ⟨_,h2⟩|⟨e,_,_,_,_,h2,h3⟩
           ·exact h2
           ·rw[ah]at h2;rcases okI_kind h3 with h4|h4|h4<;>omega
          have bN:=withR_change (D:=E) (p:=p) (i:=⟨(E.clock:Nat),1,md,dt,true⟩) aj.out.names.sorted bW;have cm:Num (m+1) (inosR E (E.inos++[⟨(E.clock:Nat),1,md,dt,true⟩])):=⟨HN.out.clock,HN.out.trace,by have:=HN.out.later;show E.later.length<=_;omega,by have:=HN.out.inos;show(E.inos++[_]).length<=_;rw[length_append,length_singleton];omega,HN.out.edits,HN.out.path,HN.out.long⟩
          have cw:Num (m+1) (withR E p ⟨(E.clock:Nat),1,md,dt,true⟩):=by
           rw[bN];exact⟨HN.out.clock,HN.out.trace,by have:=HN.out.later;show(E.later++[_]).length<=_;rw[length_append,length_singleton];omega,by have:=HN.out.inos;show(E.inos++[_]).length<=_;rw[length_append,length_singleton];omega,HN.out.edits,HN.out.path,HN.out.long⟩
          have c8:=hid cm;have c9:=hid cw;have cO:=hid bN;have b5:Below w4.heap.size w4 (w4.alloc (.cells #[.int .i64 1,.int .i64 md,.int .i64 (E.clock:Nat),.string DT,.bool true] 128)):=(Below.refl _ _).alloc (Nat.le_refl _) _;have B5:=hid (Below.trans B4.out (b5.mono B4.out.size));have CW:=kwith_any w (w4.alloc (.cells #[.int .i64 1,.int .i64 md,.int .i64 (E.clock:Nat),.string DT,.bool true] 128)) T1 Q (m+1) (m+1) E p ⟨(E.clock:Nat),1,md,dt,true⟩ ⟨x1,ab.out.below B5.out⟩ (by have:=aj.out.names.len;omega) hm c8.out c9.out (fun e he=>by have:=((path_iff e.path).1 (aj.out.names.path e he)).1;omega) aK.out;rw[HP.out,cO.out]at CW;unfold riV at CW;simp only at CW;rw[bS.out]at CW;have cA:=hid CW;clear aa am ah au bQ hfull bW bN cm cw CW b5;repeat (first|(go_at_call 136;refine cA.out.mono ?_;rintro r w7 ⟨rfl,aG⟩;simp only[];have bp:=hid aG;clear aG)|go_skip|go_guarded|go_step|go_upon)
          go_ret;rw[ac.out];exact⟨rfl,ai.out _ _ (RAft.under B5.out bp.out)⟩
       ·have ah:kindD E p≠0:=by
         rw[hf.knd];rcases okI_kind hf.ok with h|h|h<;>omega
        have aA:=okI_kind hf.ok;have ao:=hf.knd;obtain⟨ik,bq⟩:∃ z,i.kind=z:=⟨_,rfl⟩;rw[bq]at aA ao;have cJ:(0:Int)<=(k:Int):=by omega
        have cL:¬(k:Int)<0:=by omega
        have cD:decide ((k:Int)<0)=false:=by simp
        have cR:decide ((0:Int)<=(k:Int))=true:=by simp
        have dd:=hf.qn;have cY:=hf.qm;have dk:=hf.kn;have cT:=hf.kl;have cj:IntKind.i64.wrap (q0:Int)=(q0:Int):=by rw[IntKind.wrap_i64];omega
        have bX:RowKit.wrap64 (q0:Int)=(q0:Int):=by unfold RowKit.wrap64;omega
        have u0:=hf.n0;have u3:=hf.n3;have ue:=hf.ent;have z0:=cell_regrown u0;have z3:=cell_regrown u3;have ze:=cell_regrown ue;have zk:=hf.c0;rw[bq]at zk;have uk:=zk;have zk:=cell_regrown uk;have HF:=hid hf;have aI:=(ab.out.below B.out).row;unfold rdC at aI;have bk:=hid aI;have cV:=hid bq;obtain⟨kb,bl⟩:∃ b,(ik != 1)=b:=⟨_,rfl⟩;clear hf a9 aI bq;repeat (first|go_skip|go_guarded|go_step|go_upon)
        go_quiet (fail);have b4:=NA.below_drewN (Below.refl w3.heap.size w3) nq;have B4:=hid (Below.trans B.out (b4.mono B.out.size));have aS:=hid (HF.out.below b4);have bm:=hid ((b4.block Q (Array.getElem?_eq_some_iff.1 bk.out).1).trans bk.out);clear z0 z3 ze zk b4 u0 u3 ue uk;generalize World.drewN w3 nq=w4 at B4 aS bm ⊢
        cases kb with
        | true =>
         have aL:ik≠1:=by simpa using bl
         have ac:Hid (Z=(E,73)):=hid (by
          rw[HZ.out];rcases aA with h|h|h
          ·exact absurd h aL
          ·simp[writeE,refuse,firstE,whenE,aa,aH.out,am,ao,h]
          ·simp[writeE,refuse,firstE,whenE,aa,aH.out,am,ao,h])
         clear aa am ah aA ao aL bl;repeat (first|go_skip|go_guarded|go_step|go_upon)
         go_ret;rw[ac.out];exact⟨rfl,ai.out _ _ ((RAft.same ⟨x1,ab.out⟩).later B4.out)⟩
        | false =>
         have aL:ik=1:=by simpa using bl
         rw[aL]at ao
         cases fb with
         | true =>
          have au:(fateD E).what=2:=of_decide_eq_true bt.out.symm;have ac:Hid (Z=(E,71)):=hid (by rw[HZ.out];simp[writeE,refuse,firstE,whenE,aa,aH.out,am,ao,roomB,au]);clear aa am ah au aA ao aL bl;repeat (first|go_skip|go_guarded|go_step|go_upon)
          go_ret;rw[ac.out];exact⟨rfl,ai.out _ _ ((RAft.same ⟨x1,ab.out⟩).later B4.out)⟩
         | false =>
          have au:¬(fateD E).what=2:=of_decide_eq_false bt.out.symm
          have aq:wroteI E dt md i=⟨(E.clock:Nat),1,md,dt,true⟩:=by
           unfold wroteI;obtain⟨a1,a2,a3,a4,a5⟩:=i;have:a2=1:=cV.out.trans aL;subst this;rfl
          have ac:Hid (Z=({ E with inos:=E.inos.set ((q0+1)-1) ⟨(E.clock:Nat),1,md,dt,true⟩ },0)):=hid (by
           rw[HZ.out];have h1:=aS.out.set (wroteI E dt md);rw[aq]at h1;have h2:wroteD E p dt md=setI E p (wroteI E dt md):=by unfold wroteD;rw[if_neg ah]
           rw[h2,h1]
           simp[writeE,refuse,firstE,whenE,aa,aH.out,am,ao,roomB,au])
          obtain⟨-,-,-,-,-,-,c6,-,-,-,-⟩:=row10 bm.out;clear aa am ah au aA ao aL bl aq;repeat (first|go_skip|go_guarded|go_step|go_upon)
          have b6:Below w4.heap.size w4 (w4.alloc (.cells #[.int .i64 1,.int .i64 md,.int .i64 (E.clock:Nat),.string DT,.bool true] 128)):=(Below.refl _ _).alloc (Nat.le_refl _) _;have r6:=heap_alloc_new w4 (.cells #[.int .i64 1,.int .i64 md,.int .i64 (E.clock:Nat),.string DT,.bool true] 128);clear c6;generalize (w4.alloc (.cells #[.int .i64 1,.int .i64 md,.int .i64 (E.clock:Nat),.string DT,.bool true] 128))=w6 at b6 r6 ⊢;have f0:=(aS.out.below b6).n0;have fe:=(aS.out.below b6).ent;obtain⟨s0,s1,s2,s3,s4⟩:=row5 r6;have B6:=hid (Below.trans B4.out (b6.mono B4.out.size));clear b6 r6;refine wp_region_noPanic ?_;with_reducible refine QT.region_mix (S:=fun w'=>w'.cell? ⟨Q,0,none⟩=some (.slice (some ⟨g,o,none⟩) n cn)/\w'.cell? ⟨g,o+k*2+1,none⟩=some (.int .i64 ((q0+1:Nat):Int))/\w'.cell? ⟨w4.heap.size,0,none⟩=some (.int .i64 1)/\w'.cell? ⟨w4.heap.size,1,none⟩=some (.int .i64 md)/\w'.cell? ⟨w4.heap.size,2,none⟩=some (.int .i64 (E.clock:Nat))/\w'.cell? ⟨w4.heap.size,3,none⟩=some (.string DT)/\w'.cell? ⟨w4.heap.size,4,none⟩=some (.bool true)) [(true,0),(true,1),(true,2),(true,3),(true,4),(true,5),(true,6),(true,7),(true,8),(true,9)] 10 (by kernel_rfl) (by kernel_rfl) ?_ ?_ ?_
          ·exact fun _ _ _ _ _ h=>h
          ·exact⟨f0,fe,s0,s1,s2,s3,s4⟩
          intro _;simp only[QT.pickM,List.filterMap_cons,List.filterMap_nil,List.getElem?_cons_succ,List.getElem?_cons_zero,Option.map_some,List.drop_succ_cons,List.drop_zero];iterate 10 (refine QT.wpMix_take _ (by rfl) (by intro w' cE;obtain⟨y0,y1,y2,y3,y4,y5,y6⟩:=cE;go_simp;first|done|rfl) ?_;try simp only[Act.put,List.setIfInBounds_toArray,List.set_cons_zero,List.set_cons_succ])
          refine QT.wpMix_nil ?_;have bb:=kset_any w w6.drew T1 Q (m+1) E (q0+1) ⟨(E.clock:Nat),1,md,dt,true⟩ ⟨x1,ab.out.below B6.out.drew⟩ hm (by omega) (by have:=aS.out.len;have:=aS.out.qn;omega);unfold riV at bb;simp only at bb;rw[bS.out]at bb;have bK:=hid bb;clear bb f0 fe s0 s1 s2 s3 s4;repeat (first|go_skip|go_guarded|go_step|go_upon)
          refine bK.out.mono ?_;rintro r w7 ⟨rfl,aG⟩;simp only[];have bp:=hid aG;clear aG;repeat (first|go_skip|go_guarded|go_step|go_upon)
          refine NoPanic.normal ?_;repeat (first|go_skip|go_guarded|go_step|go_upon)
          go_ret;rw[ac.out];exact⟨rfl,ai.out _ _ (RAft.under B6.out.drew bp.out)⟩
 ·have HZ:=hid (aE.out h0);have cK:(er != 0)=true:=by simpa using h0
  have bJ:(er==0)=false:=by simpa using h0
  clear aR h0 aV aE aB;repeat (first|go_skip|go_guarded|go_step|go_upon)
  go_ret;rw[HZ.out];exact⟨rfl,ai.out _ _ (RAft.same ⟨x1,ab.out⟩)⟩
end RK
end
end Go.Proofs.YtkmcjededpamnaaGreatDoor
