import Derived.Test.YtkmcjededpamnaaGreatDoorMg15
import Derived.Test.YtkmcjededpamnaaGreatDoorMg3
set_option linter.all false
set_option maxRecDepth 100000
set_option maxHeartbeats 0
namespace Go.Proofs.YtkmcjededpamnaaGreatDoor
open List(take_add_one)
section
open Go.RowKit Go.Lib Go.BigFrame
namespace RK
open OM TP TM DP DM FP DG TG TR
def madeR(E:Dk)(p:List UInt8)(i:Ino)(fb ab:Bool):Dk×Int :=
 if NP.pathL p=false then(E,11)else if ab=true then(E,2)else if upB E p=false then(E,62)else if kindD E p≠0 then(E,72)else if fb=true\/1000<=E.names.length then(E,71)else(withR E p i,0)
theorem made_lay{E:Dk}(hv:V E){p q:List UInt8}{k:Int}{fb ab:Bool}(hf:fb=decide ((fateD E).what=2))(ha:ab=!standB ⟨p,k,q,0⟩):madeR E p ⟨(E.clock:Nat),k,0,q,false⟩ fb ab=refuse (layE E ⟨p,k,q,0⟩) E (laidD E ⟨p,k,q,0⟩):=by
 subst hf ha;unfold madeR;by_cases h1:NP.pathL p=true
 ·by_cases h2:standB ⟨p,k,q,0⟩=true
  ·by_cases h3:upB E p=true
   ·by_cases h4:kindD E p=0
    ·have aC:∀ y∈E.names,y.path≠p:=by
      rcases hv.kind (path_ne h1)with ⟨_,h⟩|⟨e,_,_,_,_,h,h'⟩
      ·exact h
      ·rw[h4]at h;rcases okI_kind h' with g|g|g<;>omega
     have hw:=withR_change (D:=E) (p:=p) (i:=⟨(E.clock:Nat),k,0,q,false⟩) hv.names.sorted aC;by_cases h5:(fateD E).what=2
     ·simp[layE,refuse,firstE,whenE,h1,h2,h3,h4,h5,roomB]
     ·by_cases h6:1000<=E.names.length
      ·simp[layE,refuse,firstE,whenE,h1,h2,h3,h4,h5,h6,roomB]
      ·rw[if_neg (by simp[h1]),if_neg (by simp[h2]),if_neg (by simp[h3]),if_neg (by simp[h4]),if_neg (by simp[h5];omega),hw];simp[layE,refuse,firstE,whenE,h1,h2,h3,h4,h5,h6,roomB];rfl
    ·simp[layE,refuse,firstE,whenE,h1,h2,h3,h4]
   ·simp[layE,refuse,firstE,whenE,h1,h2,h3]
  ·simp[layE,refuse,firstE,whenE,h1,h2]
 ·simp[layE,refuse,firstE,whenE,h1]
theorem kmade_any(w W:World)(T:Nat->Prop)(Q m:Nat)(E:Dk)(p:List UInt8)(i:Ino)(fb ab:Bool)(h:RS w W T Q (m+1) E)(hv:V E)(hn:NumS m E)(hm:m+1<=1000)(hp:p.length<=1048576) :
  Calls Tryz.prog 137 #[.pointer (some ⟨Q,0,none⟩),txt p,riV i,.bool fb,.bool ab] W fun r W'=>r=.returned (.int .i64 (madeR E p i fb ab).2)/\RAft w W T Q (m+1) (madeR E p i fb ab).1 W':=by
 obtain⟨P,hP,a0⟩:=txt_of p;obtain⟨DT,aN,-⟩:=txt_of i.data;obtain⟨x,hx⟩:=h;have aa:=hid hx;have am:=hid hv;have HN:=hid hn;have HP:=hid hP;have aA:=hid hp;have aZ:=hid aN;have CP:=hid (fun V=>rpath_txt P p a0 hp V);obtain⟨pb,ad⟩:∃ b,NP.pathL p=b:=⟨_,rfl⟩;rw[ad]at CP;have b0:Below W.heap.size W (W.alloc (.cells #[.int .i64 i.kind,.int .i64 i.mode,.int .i64 i.time,.string DT,.bool i.dirty] 128)):=(Below.refl _ _).alloc (Nat.le_refl _) _;have r0:=heap_alloc_new W (.cells #[.int .i64 i.kind,.int .i64 i.mode,.int .i64 i.time,.string DT,.bool i.dirty] 128);obtain⟨w0,aE⟩:∃ V,W.alloc (.cells #[.int .i64 i.kind,.int .i64 i.mode,.int .i64 i.time,.string DT,.bool i.dirty] 128)=V:=⟨_,rfl⟩;rw[aE]at b0 r0;have B:=hid b0;have R0:=hid r0
 have be:Hid (∀ V,Below W.heap.size W V->Calls Tryz.prog 134 #[.pointer (some ⟨Q,0,none⟩),.string P] V fun r w'=>∃ z,r=.returned (.int .i64 z)/\FindSays E.names p z/\Below V.heap.size V w'):=hid (fun V hV=>by
  have:=kfind_any w V T Q (m+1) E p ⟨x,aa.out.below hV⟩ am.out.names.len;rw[HP.out]at this
  exact this)
 obtain⟨U,hU,aO⟩:=rparent_txt P p a0 hp;have aV:=hid aO
 have aF:Hid (∀ V,Below W.heap.size W V->Calls Tryz.prog 133 #[.pointer (some ⟨Q,0,none⟩),.string U] V fun r w'=>r=.returned (.bool (upB E p))/\Below V.heap.size V w'):=hid (fun V hV=>by
  have:=kdir_any w V T Q (m+1) E (NP.parentL p) ⟨x,aa.out.below hV⟩ am.out.fit;rw[show txt (NP.parentL p)=.string U by rw[<- hU,txt_data]]at this
  exact this)
 obtain⟨Z,hZ⟩:∃ Z,madeR E p i fb ab=Z:=⟨_,rfl⟩;have HZ:=hid hZ;unfold riV;rw[hZ,hP,aN];clear hx hv hn hP a0 hp aN hU aO hZ b0 r0;go_enter Tryz.func137,Tryz.ntmps137
 cases pb with
 | false =>
  have al:Hid (Z=(E,11)):=hid (by rw[<- HZ.out];simp[madeR,ad]);clear ad;repeat (first|go_skip|go_guarded|go_step|go_upon)
  try rw[aE]
  refine OM.onB (CP.out _) B ?_;intro w2 B;simp only[];repeat (first|go_skip|go_guarded|go_step|go_upon)
  go_ret;rw[al.out];exact⟨rfl,(RAft.same ⟨x,aa.out⟩).later B.out⟩
 | true =>
  repeat (first|go_skip|go_guarded|go_step|go_upon)
  try rw[aE]
  refine(CP.out _).mono ?_;rintro r w2 ⟨rfl,aq⟩;simp only[];have R2:=hid ((aq.block _ (Array.getElem?_eq_some_iff.1 R0.out).1).trans R0.out);have B:=hid (Below.trans B.out (aq.mono B.out.size));clear aq aE
  cases ab with
  | true =>
   have al:Hid (Z=(E,2)):=hid (by rw[<- HZ.out];simp[madeR,ad]);clear ad;repeat (first|go_skip|go_guarded|go_step|go_upon)
   go_ret;rw[al.out];exact⟨rfl,(RAft.same ⟨x,aa.out⟩).later B.out⟩
  | false =>
   obtain⟨ub,ap⟩:∃ b,upB E p=b:=⟨_,rfl⟩;rw[ap]at aF
   cases ub with
   | false =>
    have al:Hid (Z=(E,62)):=hid (by rw[<- HZ.out];simp[madeR,ad,ap]);clear ad ap;repeat (first|(go_at_call 89;(with_reducible refine OM.onB (aV.out _) B ?_);intro w2 B;simp only[])|(go_at_call 133;(with_reducible refine OM.onB (aF.out _ B.out) B ?_);intro w2 B;simp only[])|go_skip|go_guarded|go_step|go_upon)
    go_ret;rw[al.out];exact⟨rfl,(RAft.same ⟨x,aa.out⟩).later B.out⟩
   | true =>
    have R:=R2;repeat (first|(go_at_call 89;(with_reducible refine(aV.out _).mono ?_);rintro r w2 ⟨rfl,aq⟩;simp only[];have B:=hid (Below.trans B.out (aq.mono B.out.size));have R:=hid ((aq.block _ (Array.getElem?_eq_some_iff.1 R.out).1).trans R.out);clear aq)|(go_at_call 133;(with_reducible refine(aF.out _ B.out).mono ?_);rintro r w2 ⟨rfl,aq⟩;simp only[];have B:=hid (Below.trans B.out (aq.mono B.out.size));have R:=hid ((aq.block _ (Array.getElem?_eq_some_iff.1 R.out).1).trans R.out);clear aq)|go_skip|go_guarded|go_step|go_upon)
    refine(be.out _ B.out).mono ?_;rintro r w3 ⟨z,rfl,aJ,aK⟩;simp only[];have R3:=hid ((aK.block _ (Array.getElem?_eq_some_iff.1 R.out).1).trans R.out);have B:=hid (Below.trans B.out (aK.mono B.out.size));clear aK;rcases found_at (aa.out.below B.out) am.out (path_ne ad) aJ with ⟨rfl,ar,aX⟩|⟨k,q0,i2,n,ni,g,o,cn,gi,ci,rfl,hf⟩
    ·have aD:=(aa.out.below B.out).row;unfold rdC at aD;obtain⟨NN,aL⟩:∃ n,E.names.length=n:=⟨_,rfl⟩;rw[aL]at aD;have aP:=hid aL;obtain⟨c0,-,-,-,-,-,-,-,-,-,-⟩:=row10 aD;obtain⟨y0,y1,y2,y3,y4⟩:=row5 R3.out;clear aD aL aJ aX
     cases fb with
     | true =>
      have al:Hid (Z=(E,71)):=hid (by rw[<- HZ.out];simp[madeR,ad,ap,ar]);clear ad ap ar;repeat (first|go_skip|go_guarded|go_step|go_upon)
      go_ret;rw[al.out];exact⟨rfl,(RAft.same ⟨x,aa.out⟩).later B.out⟩
     | false =>
      by_cases hfull:1000<=NN
      ·have al:Hid (Z=(E,71)):=hid (by rw[<- HZ.out];simp[madeR,ad,ap,ar,aP.out,hfull]);have aM:(1000:Int)<=(NN:Int):=by omega
       have aY:decide ((1000:Int)<=(NN:Int))=true:=decide_eq_true aM;clear ad ap ar;repeat (first|go_skip|go_guarded|go_step|go_upon)
       go_ret;rw[al.out];exact⟨rfl,(RAft.same ⟨x,aa.out⟩).later B.out⟩
      ·have al:Hid (Z=(withR E p i,0)):=hid (by rw[<- HZ.out];simp[madeR,ad,ap,ar,aP.out,hfull]);have aM:¬(1000:Int)<=(NN:Int):=by omega
       have aY:decide ((1000:Int)<=(NN:Int))=false:=decide_eq_false aM
       have aC:∀ y∈E.names,y.path≠p:=by
        rcases am.out.kind (path_ne ad)with ⟨_,h2⟩|⟨e,_,_,_,_,h2,h3⟩
        ·exact h2
        ·rw[ar]at h2;rcases okI_kind h3 with h4|h4|h4<;>omega
       have aW:=withR_change (D:=E) (p:=p) (i:=i) am.out.names.sorted aC;have aQ:Num (m+1) (inosR E (E.inos++[i])):=⟨HN.out.clock,HN.out.trace,by have:=HN.out.later;show E.later.length<=_;omega,by have:=HN.out.inos;show(E.inos++[_]).length<=_;rw[List.length_append,List.length_singleton];omega,HN.out.edits,HN.out.path,HN.out.long⟩
       have aU:Num (m+1) (withR E p i):=by
        rw[aW];exact⟨HN.out.clock,HN.out.trace,by have:=HN.out.later;show(E.later++[_]).length<=_;rw[List.length_append,List.length_singleton];omega,by have:=HN.out.inos;show(E.inos++[_]).length<=_;rw[List.length_append,List.length_singleton];omega,HN.out.edits,HN.out.path,HN.out.long⟩
       have CW:=kwith_any w w3 T Q (m+1) (m+1) E p i ⟨x,aa.out.below B.out⟩ (by have:=am.out.names.len;omega) hm aQ aU (fun e he=>by have:=((path_iff e.path).1 (am.out.names.path e he)).1;omega) aA.out;rw[HP.out]at CW;unfold riV at CW;rw[aZ.out]at CW;have bd:=hid CW;clear ad ap ar hfull aC aW aQ aU CW;repeat (first|(go_at_call 136;refine bd.out.mono ?_;rintro r w7 ⟨rfl,aj⟩;simp only[];have au:=hid aj;clear aj)|go_skip|go_guarded|go_step|go_upon)
       go_ret;rw[al.out];exact⟨rfl,RAft.under B.out au.out⟩
    ·have ar:kindD E p≠0:=by
      rw[hf.knd];rcases okI_kind hf.ok with h|h|h<;>omega
     have al:Hid (Z=(E,72)):=hid (by rw[<- HZ.out];simp[madeR,ad,ap,ar]);have bg:(0:Int)<=(k:Int):=by omega
     have ba:¬(k:Int)<0:=by omega
     have bc:decide ((0:Int)<=(k:Int))=true:=by simp
     clear ad ap ar hf aJ;repeat (first|go_skip|go_guarded|go_step|go_upon)
     go_ret;rw[al.out];exact⟨rfl,(RAft.same ⟨x,aa.out⟩).later B.out⟩
end RK
end
section
open Go.RowKit Go.Lib Go.BigFrame
namespace RK
open OM TP TM DP DM FP DG TG TR
theorem kmkdir_any(w W:World)(T:Nat->Prop)(Q m:Nat)(D:Dk)(p:List UInt8)(h:RS w W T Q m D)(hv:V D)(hm:m+1<=1000)(hp:p.length<=1048576) :
  Calls Tryz.prog 77 #[.pointer (some ⟨Q,0,none⟩),txt p] W fun r W'=>r=.returned (.int .i64 (mkdirD D p).2)/\RAft w W T Q (m+1) (mkdirD D p).1 W':=by
 obtain⟨P,hP,a0⟩:=txt_of p;obtain⟨x,hx⟩:=h;obtain⟨E,hE⟩:∃ E,(stepD D ⟨cMkdir,p,[]⟩).1=E:=⟨_,rfl⟩;obtain⟨er,ao⟩:∃ e,(stepD D ⟨cMkdir,p,[]⟩).2=e:=⟨_,rfl⟩;have ai:=step_num hx.num ⟨cMkdir,p,[]⟩
 have CS:Hid (Calls Tryz.prog 132 #[.pointer (some ⟨Q,0,none⟩),.string ⟨#[77,107,100,105,114]⟩,.string P,.string ⟨#[]⟩] W fun r w'=>(∃ b,r=.returned (.tuple #[.int .i64 er,.bool b])/\(er=0->b=decide ((fateD E).what=2)))/\RAft w W T Q (m+1) E w'):=hid (by
  have:=kstep_any w W T Q m D ⟨cMkdir,p,[]⟩ ⟨x,hx⟩ hv hm;unfold fullB at this;rw[hE,ao]at this;simp only at this;rw[hP]at this
  exact this)
 rw[hE]at ai
 have av:Hid (er≠0->mkdirD D p=(E,er)):=hid (fun h0=>by
  unfold mkdirD
  rw[after_no (by rw[ao];exact h0),← hE,← ao])
 have aw:Hid (er=0->mkdirD D p=refuse (layE E ⟨p,2,[],0⟩) E (laidD E ⟨p,2,[],0⟩)):=hid (fun h0=>by
  unfold mkdirD
  rw[after_yes (by rw[ao];exact h0),← hE])
 have am:Hid (V E):=hid (hE ▸ hv.step ⟨cMkdir,p,[]⟩);have HN:=hid ai;have HP:=hid hP;have aA:=hid hp;obtain⟨Z,hZ⟩:∃ Z,mkdirD D p=Z:=⟨_,rfl⟩;rw[hZ]at av aw;rw[hZ,hP];clear hx hv hE ao ai hZ hP a0 hp;go_enter Tryz.func77,Tryz.ntmps77;repeat (first|go_skip|go_guarded|go_step|go_upon)
 refine CS.out.mono ?_;rintro r w1 ⟨⟨fb,rfl,a4⟩,T1,⟨x1,az⟩,a6,a8⟩;simp only[];have a3:Hid (∀ D' W',RAft w w1 T1 Q (m+1) D' W'->RAft w W T Q (m+1) D' W'):=hid (fun D' W' hh=>RAft.chain a6 a8 hh);have aa:=hid az;clear a6 a8 CS;by_cases h0:er=0
 ·have HZ:=hid (aw.out h0);have aI:=hid (a4 h0);subst h0;clear a4 av aw
  have a7:Hid (∀ V,Below w1.heap.size w1 V->Calls Tryz.prog 137 #[.pointer (some ⟨Q,0,none⟩),.string P,.agg #[.int .i64 2,.int .i64 0,.int .i64 (E.clock:Nat),.string ⟨#[]⟩,.bool false],.bool fb,.bool false] V fun r w'=>r=.returned (.int .i64 Z.2)/\RAft w V T1 Q (m+1) Z.1 w'):=hid (fun V hV=>by
   have:=kmade_any w V T1 Q m E p ⟨(E.clock:Nat),2,0,[],false⟩ fb false ⟨x1,aa.out.below hV⟩ am.out HN.out hm aA.out;rw[made_lay am.out aI.out (by rfl),← HZ.out]at this;unfold riV at this;simp only at this;rw[HP.out]at this
   exact this)
  have ah:=az.row;unfold rdC at ah;obtain⟨-,-,-,-,-,-,c6,-,-,-,-⟩:=row10 ah;clear ah az;repeat (first|go_skip|go_guarded|go_step|go_upon)
  trace_state
  refine(a7.out _ (Below.refl _ _)).mono ?_;rintro r w7 ⟨rfl,aj⟩;simp only[];have au:=hid aj;clear aj;repeat (first|go_skip|go_guarded|go_step|go_upon)
  go_ret;exact⟨rfl,a3.out _ _ (RAft.under (Below.refl _ _) au.out)⟩
 ·have HZ:=hid (av.out h0);have bb:(er != 0)=true:=by simpa using h0
  have aH:(er==0)=false:=by simpa using h0
  clear az h0 a4 av aw;repeat (first|go_skip|go_guarded|go_step|go_upon)
  go_ret;rw[HZ.out];exact⟨rfl,a3.out _ _ (RAft.same ⟨x1,aa.out⟩)⟩
end RK
end
section
open Go.RowKit Go.Lib Go.BigFrame
namespace RK
open OM TP TM DP DM FP DG TG TR
theorem stand_link(p q:List UInt8):standB ⟨p,3,q,0⟩=(!(q.contains 0)&&decide (1<=q.length)&&decide (q.length<=400)):=by
 unfold standB rightV rightB;simp
theorem klink_any(w W:World)(T:Nat->Prop)(Q m:Nat)(D:Dk)(p q:List UInt8)(h:RS w W T Q m D)(hv:V D)(hm:m+1<=1000)(hp:p.length<=1048576)(hq:q.length<=1048576) :
  Calls Tryz.prog 78 #[.pointer (some ⟨Q,0,none⟩),txt p,txt q] W fun r W'=>r=.returned (.int .i64 (linkD D p q).2)/\RAft w W T Q (m+1) (linkD D p q).1 W':=by
 obtain⟨P,hP,a0⟩:=txt_of p;obtain⟨O,hO,aT⟩:=txt_of q;obtain⟨x,hx⟩:=h;obtain⟨E,hE⟩:∃ E,(stepD D ⟨cLink,p,q⟩).1=E:=⟨_,rfl⟩;obtain⟨er,ao⟩:∃ e,(stepD D ⟨cLink,p,q⟩).2=e:=⟨_,rfl⟩;have ai:=step_num hx.num ⟨cLink,p,q⟩
 have CS:Hid (Calls Tryz.prog 132 #[.pointer (some ⟨Q,0,none⟩),.string ⟨#[76,105,110,107]⟩,.string P,.string O] W fun r w'=>(∃ b,r=.returned (.tuple #[.int .i64 er,.bool b])/\(er=0->b=decide ((fateD E).what=2)))/\RAft w W T Q (m+1) E w'):=hid (by
  have:=kstep_any w W T Q m D ⟨cLink,p,q⟩ ⟨x,hx⟩ hv hm;unfold fullB at this;rw[hE,ao]at this;simp only at this;rw[hP]at this;rw[hO]at this
  exact this)
 rw[hE]at ai
 have av:Hid (er≠0->linkD D p q=(E,er)):=hid (fun h0=>by
  unfold linkD
  rw[after_no (by rw[ao];exact h0),← hE,← ao])
 have aw:Hid (er=0->linkD D p q=refuse (layE E ⟨p,3,q,0⟩) E (laidD E ⟨p,3,q,0⟩)):=hid (fun h0=>by
  unfold linkD
  rw[after_yes (by rw[ao];exact h0),← hE])
 have am:Hid (V E):=hid (hE ▸ hv.step ⟨cLink,p,q⟩);have HN:=hid ai;have HP:=hid hP;have aA:=hid hp;have HO:=hid hO;have ax:=hid aT;have bf:=hid hq;obtain⟨Z,hZ⟩:∃ Z,linkD D p q=Z:=⟨_,rfl⟩;rw[hZ]at av aw;rw[hZ,hP,hO];clear hx hv hE ao ai hZ hP a0 hp hO aT hq;go_enter Tryz.func78,Tryz.ntmps78;repeat (first|go_skip|go_guarded|go_step|go_upon)
 refine CS.out.mono ?_;rintro r w1 ⟨⟨fb,rfl,a4⟩,T1,⟨x1,az⟩,a6,a8⟩;simp only[];have a3:Hid (∀ D' W',RAft w w1 T1 Q (m+1) D' W'->RAft w W T Q (m+1) D' W'):=hid (fun D' W' hh=>RAft.chain a6 a8 hh);have aa:=hid az;clear a6 a8 CS;by_cases h0:er=0
 ·have HZ:=hid (aw.out h0);have aI:=hid (a4 h0);subst h0;clear a4 av aw
  have a7:Hid (∀ ab,ab=!standB ⟨p,3,q,0⟩->∀ V,Below w1.heap.size w1 V->Calls Tryz.prog 137 #[.pointer (some ⟨Q,0,none⟩),.string P,.agg #[.int .i64 3,.int .i64 0,.int .i64 (E.clock:Nat),.string O,.bool false],.bool fb,.bool ab] V fun r w'=>r=.returned (.int .i64 Z.2)/\RAft w V T1 Q (m+1) Z.1 w'):=hid (fun ab hab V hV=>by
   have:=kmade_any w V T1 Q m E p ⟨(E.clock:Nat),3,0,q,false⟩ fb ab ⟨x1,aa.out.below hV⟩ am.out HN.out hm aA.out;rw[made_lay am.out aI.out hab,← HZ.out]at this;unfold riV at this;simp only at this;rw[HP.out,HO.out]at this
   exact this)
  obtain⟨on,aR⟩:∃ n,O.size=n:=⟨_,rfl⟩;have aG:=hid aR;have ak:Hid (q.length=on):=hid (by rw[<- aR,size_eq,ax.out]);have bh:(on:Int)<=1048576:=by have:=bf.out;have:=ak.out;omega
  clear az;by_cases a1:on=0
  ·have e1:O.toList.isEmpty=true:=by rw[toList_data,ax.out,List.eq_nil_of_length_eq_zero (ak.out.trans a1)];rfl
   have e2:(O.toList==[])=true:=by rw[toList_data,ax.out,List.eq_nil_of_length_eq_zero (ak.out.trans a1)];rfl
   repeat (first|go_skip|go_guarded|go_step|go_upon)
   go_loop [9,10] (fun s9 s10=>∃(j:Nat) (b:Bool),s10=.int .i64 j/\j<=on/\s9=.bool b/\b=(true||(q.take j).contains 0)) (fun _ s10=>on-(RowKit.intOf s10).toNat)
   case atStart=>exact⟨0,true,rfl,Nat.zero_le _,rfl,by simp⟩
   case round =>
    obtain⟨j,b,rfl,hj,rfl,hb⟩:=hrel;have HB:=hid hb;clear hb;by_cases hlt:j<on
    ·have a5:(j:Int)<on:=by omega
     obtain⟨x,hx⟩:∃ x,q[j]?=some x:=⟨q[j]'(by rw[ak.out];exact hlt),List.getElem?_eq_getElem _⟩
     cases b with
     | true =>
      have ac:Hid (true=(true||(q.take (j+1)).contains 0)):=hid (by
       have h1:=HB.out
       cases hc:(q.take j).contains 0 with
       | true =>
        have:(q.take (j+1)).contains 0=true:=by rw[take_add_one,List.contains_append,hc];rfl
        rw[this];simp
       | false=>rw[hc,Bool.or_false]at h1;rw[<- h1];rfl)
      clear hx;repeat (first|go_skip|go_guarded|go_step|go_upon)
      all_goals exact⟨⟨j+1,true,by go_num,by omega,rfl,ac.out⟩,by simp[RowKit.intOf]<;>omega⟩
     | false =>
      have h1:=HB.out
      have hc:(q.take j).contains 0=false:=by
       cases hc:(q.take j).contains 0 with
       | true=>rw[hc,Bool.or_true]at h1;cases h1
       | false=>rfl
      have h2:true=false:=by first|rfl|(rw[hc,Bool.or_false]at h1;exact h1.symm)
      obtain⟨xn,ag,aS,i0⟩:=TR.byte_at O j (by have:=aG.out;omega) j rfl;rw[ax.out,List.getD_eq_getElem?_getD,hx,Option.getD_some]at ag;have ay:Hid (decide (x=0)=(true||(q.take (j+1)).contains 0)):=hid (by rw[h2,TR.contains_take hx hc];rfl);by_cases h0:x=0
      ·have a9:((xn:Int)==0)=true:=by rw[<- ag,h0];rfl
       have ac:Hid (true=(true||(q.take (j+1)).contains 0)):=hid (by rw[<- ay.out,h0];rfl);clear hx ag h0 h1 h2 hc;repeat (first|go_skip|go_guarded|go_step|go_upon)
       all_goals exact⟨⟨j+1,true,by go_num,by omega,rfl,ac.out⟩,by simp[RowKit.intOf]<;>omega⟩
      ·have a9:((xn:Int)==0)=false:=by
        simp only[beq_eq_false_iff_ne];intro e;exact h0 (UInt8.toNat_inj.1 (by rw[ag];show xn=0;omega))
       have ac:Hid (false=(true||(q.take (j+1)).contains 0)):=hid (by rw[<- ay.out,decide_eq_false h0]);clear hx ag h0 h1 h2 hc;repeat (first|go_skip|go_guarded|go_step|go_upon)
       all_goals exact⟨⟨j+1,false,by go_num,by omega,rfl,ac.out⟩,by simp[RowKit.intOf]<;>omega⟩
    ·have a5:¬(j:Int)<on:=by omega
     have aB:=hid (a7.out b (by
      rw[HB.out,List.take_of_length_le (by rw[ak.out];omega),stand_link,ak.out]
      simp[a1]))
     have ah:=aa.out.row;unfold rdC at ah;obtain⟨-,-,-,-,-,-,c6,-,-,-,-⟩:=row10 ah;clear hlt ah;repeat (first|go_skip|go_guarded|go_step|go_upon)
     refine(aB.out _ (Below.refl _ _)).mono ?_;rintro r w7 ⟨rfl,aj⟩;simp only[];have au:=hid aj;clear aj c6;repeat (first|go_skip|go_guarded|go_step|go_upon)
     go_ret;exact⟨rfl,a3.out _ _ (RAft.under (Below.refl _ _) au.out)⟩
  ·have e1:O.toList.isEmpty=false:=by
    rw[toList_data,ax.out]
    cases q with
    | nil=>exact absurd ak.out.symm a1
    | cons x l=>rfl
   have e2:(O.toList==[])=false:=by
    rw[toList_data,ax.out]
    cases q with
    | nil=>exact absurd ak.out.symm a1
    | cons x l=>rfl
   by_cases a2:400<on
   ·have f1:decide ((400:Int)<(on:Int))=true:=decide_eq_true (by omega);have f2:(400:Int)<(on:Int):=by omega
    repeat (first|go_skip|go_guarded|go_step|go_upon)
    go_loop [9,10] (fun s9 s10=>∃(j:Nat) (b:Bool),s10=.int .i64 j/\j<=on/\s9=.bool b/\b=(true||(q.take j).contains 0)) (fun _ s10=>on-(RowKit.intOf s10).toNat)
    case atStart=>exact⟨0,true,rfl,Nat.zero_le _,rfl,by simp⟩
    case round =>
     obtain⟨j,b,rfl,hj,rfl,hb⟩:=hrel;have HB:=hid hb;clear hb;by_cases hlt:j<on
     ·have a5:(j:Int)<on:=by omega
      obtain⟨x,hx⟩:∃ x,q[j]?=some x:=⟨q[j]'(by rw[ak.out];exact hlt),List.getElem?_eq_getElem _⟩
      cases b with
      | true =>
       have ac:Hid (true=(true||(q.take (j+1)).contains 0)):=hid (by
        have h1:=HB.out
        cases hc:(q.take j).contains 0 with
        | true =>
         have:(q.take (j+1)).contains 0=true:=by rw[take_add_one,List.contains_append,hc];rfl
         rw[this];simp
        | false=>rw[hc,Bool.or_false]at h1;rw[<- h1];rfl)
       clear hx;repeat (first|go_skip|go_guarded|go_step|go_upon)
       all_goals exact⟨⟨j+1,true,by go_num,by omega,rfl,ac.out⟩,by simp[RowKit.intOf]<;>omega⟩
      | false =>
       have h1:=HB.out
       have hc:(q.take j).contains 0=false:=by
        cases hc:(q.take j).contains 0 with
        | true=>rw[hc,Bool.or_true]at h1;cases h1
        | false=>rfl
       have h2:true=false:=by first|rfl|(rw[hc,Bool.or_false]at h1;exact h1.symm)
       obtain⟨xn,ag,aS,i0⟩:=TR.byte_at O j (by have:=aG.out;omega) j rfl;rw[ax.out,List.getD_eq_getElem?_getD,hx,Option.getD_some]at ag;have ay:Hid (decide (x=0)=(true||(q.take (j+1)).contains 0)):=hid (by rw[h2,TR.contains_take hx hc];rfl);by_cases h0:x=0
       ·have a9:((xn:Int)==0)=true:=by rw[<- ag,h0];rfl
        have ac:Hid (true=(true||(q.take (j+1)).contains 0)):=hid (by rw[<- ay.out,h0];rfl);clear hx ag h0 h1 h2 hc;repeat (first|go_skip|go_guarded|go_step|go_upon)
        all_goals exact⟨⟨j+1,true,by go_num,by omega,rfl,ac.out⟩,by simp[RowKit.intOf]<;>omega⟩
       ·have a9:((xn:Int)==0)=false:=by
         simp only[beq_eq_false_iff_ne];intro e;exact h0 (UInt8.toNat_inj.1 (by rw[ag];show xn=0;omega))
        have ac:Hid (false=(true||(q.take (j+1)).contains 0)):=hid (by rw[<- ay.out,decide_eq_false h0]);clear hx ag h0 h1 h2 hc;repeat (first|go_skip|go_guarded|go_step|go_upon)
        all_goals exact⟨⟨j+1,false,by go_num,by omega,rfl,ac.out⟩,by simp[RowKit.intOf]<;>omega⟩
     ·have a5:¬(j:Int)<on:=by omega
      have aB:=hid (a7.out b (by
       rw[HB.out,List.take_of_length_le (by rw[ak.out];omega),stand_link,ak.out]
       simp[show ¬ on<=400 by omega]))
      have ah:=aa.out.row;unfold rdC at ah;obtain⟨-,-,-,-,-,-,c6,-,-,-,-⟩:=row10 ah;clear hlt ah;repeat (first|go_skip|go_guarded|go_step|go_upon)
      refine(aB.out _ (Below.refl _ _)).mono ?_;rintro r w7 ⟨rfl,aj⟩;simp only[];have au:=hid aj;clear aj c6;repeat (first|go_skip|go_guarded|go_step|go_upon)
      go_ret;exact⟨rfl,a3.out _ _ (RAft.under (Below.refl _ _) au.out)⟩
   ·have f1:decide ((400:Int)<(on:Int))=false:=decide_eq_false (by omega);have f2:¬(400:Int)<(on:Int):=by omega
    repeat (first|go_skip|go_guarded|go_step|go_upon)
    go_loop [9,10] (fun s9 s10=>∃(j:Nat) (b:Bool),s10=.int .i64 j/\j<=on/\s9=.bool b/\b=(false||(q.take j).contains 0)) (fun _ s10=>on-(RowKit.intOf s10).toNat)
    case atStart=>exact⟨0,false,rfl,Nat.zero_le _,rfl,by simp⟩
    case round =>
     obtain⟨j,b,rfl,hj,rfl,hb⟩:=hrel;have HB:=hid hb;clear hb;by_cases hlt:j<on
     ·have a5:(j:Int)<on:=by omega
      obtain⟨x,hx⟩:∃ x,q[j]?=some x:=⟨q[j]'(by rw[ak.out];exact hlt),List.getElem?_eq_getElem _⟩
      cases b with
      | true =>
       have ac:Hid (true=(false||(q.take (j+1)).contains 0)):=hid (by
        have h1:=HB.out
        cases hc:(q.take j).contains 0 with
        | true =>
         have:(q.take (j+1)).contains 0=true:=by rw[take_add_one,List.contains_append,hc];rfl
         rw[this];simp
        | false=>rw[hc,Bool.or_false]at h1;rw[<- h1];rfl)
       clear hx;repeat (first|go_skip|go_guarded|go_step|go_upon)
       all_goals exact⟨⟨j+1,true,by go_num,by omega,rfl,ac.out⟩,by simp[RowKit.intOf]<;>omega⟩
      | false =>
       have h1:=HB.out
       have hc:(q.take j).contains 0=false:=by
        cases hc:(q.take j).contains 0 with
        | true=>rw[hc,Bool.or_true]at h1;cases h1
        | false=>rfl
       have h2:false=false:=by first|rfl|(rw[hc,Bool.or_false]at h1;exact h1.symm)
       obtain⟨xn,ag,aS,i0⟩:=TR.byte_at O j (by have:=aG.out;omega) j rfl;rw[ax.out,List.getD_eq_getElem?_getD,hx,Option.getD_some]at ag;have ay:Hid (decide (x=0)=(false||(q.take (j+1)).contains 0)):=hid (by rw[h2,TR.contains_take hx hc];rfl);by_cases h0:x=0
       ·have a9:((xn:Int)==0)=true:=by rw[<- ag,h0];rfl
        have ac:Hid (true=(false||(q.take (j+1)).contains 0)):=hid (by rw[<- ay.out,h0];rfl);clear hx ag h0 h1 h2 hc;repeat (first|go_skip|go_guarded|go_step|go_upon)
        all_goals exact⟨⟨j+1,true,by go_num,by omega,rfl,ac.out⟩,by simp[RowKit.intOf]<;>omega⟩
       ·have a9:((xn:Int)==0)=false:=by
         simp only[beq_eq_false_iff_ne];intro e;exact h0 (UInt8.toNat_inj.1 (by rw[ag];show xn=0;omega))
        have ac:Hid (false=(false||(q.take (j+1)).contains 0)):=hid (by rw[<- ay.out,decide_eq_false h0]);clear hx ag h0 h1 h2 hc;repeat (first|go_skip|go_guarded|go_step|go_upon)
        all_goals exact⟨⟨j+1,false,by go_num,by omega,rfl,ac.out⟩,by simp[RowKit.intOf]<;>omega⟩
     ·have a5:¬(j:Int)<on:=by omega
      have aB:=hid (a7.out b (by
       rw[HB.out,List.take_of_length_le (by rw[ak.out];omega),stand_link,ak.out]
       rw[decide_eq_true (show 1<=on by omega),decide_eq_true (show on<=400 by omega)];simp))
      have ah:=aa.out.row;unfold rdC at ah;obtain⟨-,-,-,-,-,-,c6,-,-,-,-⟩:=row10 ah;clear hlt ah;repeat (first|go_skip|go_guarded|go_step|go_upon)
      refine(aB.out _ (Below.refl _ _)).mono ?_;rintro r w7 ⟨rfl,aj⟩;simp only[];have au:=hid aj;clear aj c6;repeat (first|go_skip|go_guarded|go_step|go_upon)
      go_ret;exact⟨rfl,a3.out _ _ (RAft.under (Below.refl _ _) au.out)⟩
 ·have HZ:=hid (av.out h0);have bb:(er != 0)=true:=by simpa using h0
  have aH:(er==0)=false:=by simpa using h0
  clear az h0 a4 av aw;repeat (first|go_skip|go_guarded|go_step|go_upon)
  go_ret;rw[HZ.out];exact⟨rfl,a3.out _ _ (RAft.same ⟨x1,aa.out⟩)⟩
end RK
end
end Go.Proofs.YtkmcjededpamnaaGreatDoor
