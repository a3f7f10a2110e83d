import Derived.Test.YtmohjalanhnhbaaGreatDoorMg15
import Derived.Test.YtmohjalanhnhbaaGreatDoorMg3
set_option linter.all false
set_option maxRecDepth 100000
set_option maxHeartbeats 25600000
namespace Go.Proofs.YtmohjalanhnhbaaGreatDoor
open Go.RowKit Go.Lib Go.BigFrame
namespace RK
open OM TP TM DP DM FP DG TG TR
theorem stand_file (p dt:List UInt8) (md:Int):standB ⟨p,1,dt,md⟩=(decide (dt.length<=65536)&&decide (0<=md)&&decide (md<=511)):=by
 unfold standB rightV rightB
 simp
theorem wrote_new {E:Dk} (h:V E) {p dt:List UInt8} {md:Int} (hp:NP.pathL p=true) (hs:standB ⟨p,1,dt,md⟩=true) (hu:upB E p=true) (h0:kindD E p=0) (hl:E.names.length<1000) :
  wroteD E p dt md=changeD (inosR E (E.inos++[⟨(E.clock:Nat),1,md,dt,true⟩])) [en p ((E.inos.length+1:Nat):Int)]:=by
 have hv:=h.laid_all (n:=⟨p,1,dt,md⟩) hp (stand_right hs) hu h0 hl
 have hr:Row (E.inos.length+1) (changeD (freshD E ⟨p,1,dt,md⟩) [freshE E ⟨p,1,dt,md⟩]).names:=by
  have h1:=hv.names.row
  have h2:(laidD E ⟨p,1,dt,md⟩).inos.length=E.inos.length+1:=by
   show (E.inos++[_]).length=_
   simp
  rw [h2] at h1
  exact h1
 have hf:=find_laid hr
 unfold wroteD
 rw [if_pos h0]
 rw [setI_some _ hf]
 have hk:(freshE E ⟨p,1,dt,md⟩).kind=((E.inos.length+1:Nat):Int):=rfl
 have hi:inoOf (changeD (freshD E ⟨p,1,dt,md⟩) [freshE E ⟨p,1,dt,md⟩]).inos (freshE E ⟨p,1,dt,md⟩).kind=freshI E ⟨p,1,dt,md⟩:=by
  rw [hk]
  show inoOf (E.inos++[freshI E ⟨p,1,dt,md⟩]) ((E.inos.length+1:Nat):Int)=_
  unfold inoOf
  rw [List.getD_eq_getElem?_getD,show ((E.inos.length+1:Nat):Int).toNat-1=E.inos.length by omega,List.getElem?_append_right (Nat.le_refl _),Nat.sub_self]
  rfl
 rw [hi,hk,show ((E.inos.length+1:Nat):Int).toNat-1=E.inos.length by omega]
 show ({ changeD (freshD E ⟨p,1,dt,md⟩) [freshE E ⟨p,1,dt,md⟩] with inos:=(E.inos++[freshI E ⟨p,1,dt,md⟩]).set E.inos.length (wroteI E dt md (freshI E ⟨p,1,dt,md⟩)) }:Dk)=_
 rw [List.set_append_right _ _ (Nat.le_refl _),Nat.sub_self]
 rfl
theorem kwrite_any (w W:World) (T:Nat->Prop) (Q m:Nat) (D:Dk) (p dt:List UInt8) (md:Int) (h:RS w W T Q m D) (hv:V D) (hm:m+1<=1000) (hp:p.length<=1048576) :
  Calls Tryz.prog 76 #[.pointer (some ⟨Q,0,none⟩),txt p,txt dt,.int .i64 md] W fun r W'=>r=.returned (.int .i64 (writeD D p dt md).2)/\RAft w W T Q (m+1) (writeD D p dt md).1 W':=by
 obtain⟨P,hP,hPd⟩:=txt_of p
 obtain⟨DT,hDT,hDTd⟩:=txt_of dt
 have HDTd:=Lib.hid hDTd
 have HDT:=Lib.hid hDT
 rw [hDT]
 clear hDT hDTd
 obtain⟨x,hx⟩:=h
 obtain⟨E,hE⟩:∃ E,(stepD D ⟨cWrite,p,[]⟩).1=E:=⟨_,rfl⟩
 obtain⟨er,her⟩:∃ e,(stepD D ⟨cWrite,p,[]⟩).2=e:=⟨_,rfl⟩
 have hnum:=step_num hx.num ⟨cWrite,p,[]⟩
 have CS:Hid (Calls Tryz.prog 132 #[.pointer (some ⟨Q,0,none⟩),.string ⟨#[87,114,105,116,101]⟩,.string P,.string ⟨#[]⟩] W fun r w'=>(∃ b,r=.returned (.tuple #[.int .i64 er,.bool b])/\(er=0->b=decide ((fateD E).what=2)))/\RAft w W T Q (m+1) E w'):=Lib.hid (by
  have:=kstep_any w W T Q m D ⟨cWrite,p,[]⟩ ⟨x,hx⟩ hv hm
  unfold fullB at this
  rw [hE,her] at this
  simp only at this
  rw [hP] at this
  exact this)
 rw [hE] at hnum
 have HW1:Hid (er≠0->writeD D p dt md=(E,er)):=Lib.hid (fun h0=>by
  unfold writeD
  rw [after_no (by rw [her];exact h0),← hE,← her])
 have HW2:Hid (er=0->writeD D p dt md=refuse (writeE E p dt md) E (wroteD E p dt md)):=Lib.hid (fun h0=>by
  unfold writeD
  rw [after_yes (by rw [her];exact h0),← hE])
 have HVE:Hid (V E):=Lib.hid (hE ▸ hv.step ⟨cWrite,p,[]⟩)
 have HN:=Lib.hid hnum
 have HP:=Lib.hid hP
 have HPd:=Lib.hid hPd
 have HPP:=Lib.hid hp
 obtain⟨Z,hZ⟩:∃ Z,writeD D p dt md=Z:=⟨_,rfl⟩
 rw [hZ] at HW1 HW2
 rw [hZ,hP]
 clear hx hv hE her hnum hZ hP hPd hp
 go_enter Tryz.func76,Tryz.ntmps76
 repeat (first|(go_at_call 132;fail)|go_skip|go_guarded|go_step|go_upon)
 refine CS.out.mono ?_
 rintro r w1 ⟨⟨fb,rfl,hfb⟩,T1,⟨x1,hx1⟩,hs1,ho1⟩
 simp only []
 have HGo:Hid (∀ D' W',RAft w w1 T1 Q (m+1) D' W'->RAft w W T Q (m+1) D' W'):=Lib.hid (fun D' W' hh=>RAft.chain hs1 ho1 hh)
 have HX1:=Lib.hid hx1
 clear hs1 ho1 CS
 by_cases h0:er=0
 ·have HZ:=Lib.hid (HW2.out h0)
  have HFb:=Lib.hid (hfb h0)
  subst h0
  clear hfb HW1 HW2
  have B:=Lib.hid (Below.refl w1.heap.size w1)
  clear hx1
  have CP:=Lib.hid (fun V=>rpath_txt P p HPd.out HPP.out V)
  obtain⟨pb,hpb⟩:∃ b,NP.pathL p=b:=⟨_,rfl⟩
  rw [hpb] at CP
  have HFi:Hid (∀ V,Below w1.heap.size w1 V->Calls Tryz.prog 134 #[.pointer (some ⟨Q,0,none⟩),.string P] V fun r w'=>∃ z,r=.returned (.int .i64 z)/\FindSays E.names p z/\Below V.heap.size V w'):=Lib.hid (fun V hV=>by
   have:=kfind_any w V T1 Q (m+1) E p ⟨x1,HX1.out.below hV⟩ HVE.out.names.len
   rw [HP.out] at this
   exact this)
  obtain⟨U,hU,hUc⟩:=rparent_txt P p HPd.out HPP.out
  have HUc:=Lib.hid hUc
  have HDu:Hid (∀ V,Below w1.heap.size w1 V->Calls Tryz.prog 133 #[.pointer (some ⟨Q,0,none⟩),.string U] V fun r w'=>r=.returned (.bool (upB E p))/\Below V.heap.size V w'):=Lib.hid (fun V hV=>by
   have:=kdir_any w V T1 Q (m+1) E (NP.parentL p) ⟨x1,HX1.out.below hV⟩ HVE.out.fit
   rw [show txt (NP.parentL p)=.string U by rw [<- hU,txt_data]] at this
   exact this)
  clear hU hUc
  obtain⟨dn,hdn⟩:∃ n,DT.size=n:=⟨_,rfl⟩
  have HDn:Hid (dt.length=dn):=Lib.hid (by rw [<- hdn,Lib.size_eq,HDTd.out])
  have hst:standB ⟨p,1,dt,md⟩=(decide (dn<=65536)&&decide (0<=md)&&decide (md<=511)):=by rw [<- HDn.out];exact stand_file p dt md
  cases pb with
  | false =>
   have HZ2:Hid (Z=(E,11)):=Lib.hid (by rw [HZ.out];simp [writeE,refuse,firstE,whenE,hpb])
   clear hpb hst
   repeat (first|(go_at_call 86;(with_reducible refine (CP.out _).mono ?_);rintro r w2 ⟨rfl,hb2⟩;simp only [];have B:=Lib.hid (Below.trans B.out (hb2.mono B.out.size));clear hb2)|go_skip|go_guarded|go_step|go_upon)
   go_ret
   rw [HZ2.out]
   exact⟨rfl,HGo.out _ _ ((RAft.same ⟨x1,HX1.out⟩).later B.out)⟩
  | true =>
   by_cases hs1:65536<dn
   ·have hsb:standB ⟨p,1,dt,md⟩=false:=by rw [hst,decide_eq_false (show ¬ dn<=65536 by omega)];rfl
    have q0:((65536:Int)<dn):=by omega
    have q1:decide ((65536:Int)<dn)=true:=by simpa using q0
    have q2:(65536<dn):=by omega
    have q3:decide (65536<dn)=true:=by simpa using q2
    have HZ2:Hid (Z=(E,2)):=Lib.hid (by rw [HZ.out];simp [writeE,refuse,firstE,whenE,hpb,hsb])
    clear hpb hst hsb hs1
    repeat (first|(go_at_call 86;(with_reducible refine (CP.out _).mono ?_);rintro r w2 ⟨rfl,hb2⟩;simp only [];have B:=Lib.hid (Below.trans B.out (hb2.mono B.out.size));clear hb2)|go_skip|go_guarded|go_step|go_upon)
    go_ret
    rw [HZ2.out]
    exact⟨rfl,HGo.out _ _ ((RAft.same ⟨x1,HX1.out⟩).later B.out)⟩
   ·by_cases hs2:md<0
    ·have hsb:standB ⟨p,1,dt,md⟩=false:=by rw [hst,decide_eq_false (show ¬ 0<=md by omega)];simp
     have q0:¬ ((65536:Int)<dn):=by omega
     have q1:decide ((65536:Int)<dn)=false:=by simpa using q0
     have q2:¬ (65536<dn):=by omega
     have q3:decide (65536<dn)=false:=by simpa using q2
     have r1:decide (md<0)=true:=by simpa using hs2
     have HZ2:Hid (Z=(E,2)):=Lib.hid (by rw [HZ.out];simp [writeE,refuse,firstE,whenE,hpb,hsb])
     clear hpb hst hsb hs1
     repeat (first|(go_at_call 86;(with_reducible refine (CP.out _).mono ?_);rintro r w2 ⟨rfl,hb2⟩;simp only [];have B:=Lib.hid (Below.trans B.out (hb2.mono B.out.size));clear hb2)|go_skip|go_guarded|go_step|go_upon)
     go_ret
     rw [HZ2.out]
     exact⟨rfl,HGo.out _ _ ((RAft.same ⟨x1,HX1.out⟩).later B.out)⟩
    ·by_cases hs3:511<md
     ·have hsb:standB ⟨p,1,dt,md⟩=false:=by rw [hst,decide_eq_false (show ¬ md<=511 by omega)];simp
      have q0:¬ ((65536:Int)<dn):=by omega
      have q1:decide ((65536:Int)<dn)=false:=by simpa using q0
      have q2:¬ (65536<dn):=by omega
      have q3:decide (65536<dn)=false:=by simpa using q2
      have r1:decide (md<0)=false:=by simpa using hs2
      have r2:decide (511<md)=true:=by simpa using hs3
      have HZ2:Hid (Z=(E,2)):=Lib.hid (by rw [HZ.out];simp [writeE,refuse,firstE,whenE,hpb,hsb])
      clear hpb hst hsb hs1
      repeat (first|(go_at_call 86;(with_reducible refine (CP.out _).mono ?_);rintro r w2 ⟨rfl,hb2⟩;simp only [];have B:=Lib.hid (Below.trans B.out (hb2.mono B.out.size));clear hb2)|go_skip|go_guarded|go_step|go_upon)
      go_ret
      rw [HZ2.out]
      exact⟨rfl,HGo.out _ _ ((RAft.same ⟨x1,HX1.out⟩).later B.out)⟩
     ·have hsb:standB ⟨p,1,dt,md⟩=true:=by rw [hst,decide_eq_true (show dn<=65536 by omega),decide_eq_true (show 0<=md by omega),decide_eq_true (show md<=511 by omega)];rfl
      have q0:¬ ((65536:Int)<dn):=by omega
      have q1:decide ((65536:Int)<dn)=false:=by simpa using q0
      have q2:¬ (65536<dn):=by omega
      have q3:decide (65536<dn)=false:=by simpa using q2
      have r1:decide (md<0)=false:=by simpa using hs2
      have r2:decide (511<md)=false:=by simpa using hs3
      have HSb:=Lib.hid hsb
      obtain⟨ub,hub⟩:∃ b,upB E p=b:=⟨_,rfl⟩
      rw [hub] at HDu
      cases ub with
      | false =>
       have HZ2:Hid (Z=(E,62)):=Lib.hid (by rw [HZ.out];simp [writeE,refuse,firstE,whenE,hpb,hsb,hub])
       clear hpb hst hsb hs1 hub
       repeat (first|(go_at_call 86;(with_reducible refine (CP.out _).mono ?_);rintro r w2 ⟨rfl,hb2⟩;simp only [];have B:=Lib.hid (Below.trans B.out (hb2.mono B.out.size));clear hb2)|(go_at_call 89;(with_reducible refine (HUc.out _).mono ?_);rintro r w2 ⟨rfl,hb2⟩;simp only [];have B:=Lib.hid (Below.trans B.out (hb2.mono B.out.size));clear hb2)|(go_at_call 133;(with_reducible refine (HDu.out _ B.out).mono ?_);rintro r w2 ⟨rfl,hb2⟩;simp only [];have B:=Lib.hid (Below.trans B.out (hb2.mono B.out.size));clear hb2)|go_skip|go_guarded|go_step|go_upon)
       go_ret
       rw [HZ2.out]
       exact⟨rfl,HGo.out _ _ ((RAft.same ⟨x1,HX1.out⟩).later B.out)⟩
      | true =>
       clear hst hs1
       repeat (first|(go_at_call 86;(with_reducible refine (CP.out _).mono ?_);rintro r w2 ⟨rfl,hb2⟩;simp only [];have B:=Lib.hid (Below.trans B.out (hb2.mono B.out.size));clear hb2)|(go_at_call 89;(with_reducible refine (HUc.out _).mono ?_);rintro r w2 ⟨rfl,hb2⟩;simp only [];have B:=Lib.hid (Below.trans B.out (hb2.mono B.out.size));clear hb2)|(go_at_call 133;(with_reducible refine (HDu.out _ B.out).mono ?_);rintro r w2 ⟨rfl,hb2⟩;simp only [];have B:=Lib.hid (Below.trans B.out (hb2.mono B.out.size));clear hb2)|(go_at_call 134;fail)|go_skip|go_guarded|go_step|go_upon)
       refine (HFi.out _ B.out).mono ?_
       rintro r w3 ⟨z,rfl,hs3,hb3⟩
       simp only []
       have B:=Lib.hid (Below.trans B.out (hb3.mono B.out.size))
       clear hb3
       rcases found_at (HX1.out.below B.out) HVE.out (path_ne hpb) hs3 with ⟨rfl,hk0,hfn⟩|⟨k,q0,i,n,ni,g,o,cn,gi,ci,rfl,hf⟩
       ·have hn0:(HX1.out.below B.out).row=(HX1.out.below B.out).row:=rfl
        have hr3:=(HX1.out.below B.out).row
        unfold rdC at hr3
        obtain⟨NN,hNN⟩:∃ n,E.names.length=n:=⟨_,rfl⟩
        rw [hNN] at hr3
        have HR3:=Lib.hid hr3
        have HNN:=Lib.hid hNN
        have HK0:=Lib.hid hk0
        clear hn0 hr3 hNN hs3 hfn
        repeat (first|go_skip|go_guarded|go_step|go_upon)
        go_quiet (fail)
        have B4:=Lib.hid (Below.trans B.out ((NA.below_drewN (Below.refl w3.heap.size w3) nq).mono B.out.size))
        have r4:(World.drewN w3 nq).heap[Q]?=_:=((NA.below_drewN (Below.refl w3.heap.size w3) nq).block Q (Array.getElem?_eq_some_iff.1 HR3.out).1).trans HR3.out
        have HR4:=Lib.hid r4
        clear r4
        generalize World.drewN w3 nq=w4 at B4 HR4 ⊢
        obtain⟨c0,-,-,-,-,-,c6,-,-,-,-⟩:=row10 HR4.out
        cases fb with
        | true =>
         have hw2:(fateD E).what=2:=of_decide_eq_true HFb.out.symm
         have HZ2:Hid (Z=(E,71)):=Lib.hid (by rw [HZ.out];simp [writeE,refuse,firstE,whenE,hpb,HSb.out,hub,hk0,roomB,hw2])
         clear hpb hub hk0 hw2
         repeat (first|go_skip|go_guarded|go_step|go_upon)
         go_ret
         rw [HZ2.out]
         exact⟨rfl,HGo.out _ _ ((RAft.same ⟨x1,HX1.out⟩).later B4.out)⟩
        | false =>
         have hw2:¬ (fateD E).what=2:=of_decide_eq_false HFb.out.symm
         by_cases hfull:1000<=NN
         ·have HZ2:Hid (Z=(E,71)):=Lib.hid (by rw [HZ.out];simp [writeE,refuse,firstE,whenE,hpb,HSb.out,hub,hk0,roomB,hw2,HNN.out,hfull])
          have hf0:(1000:Int)<=(NN:Int):=by omega
          have hf1:decide ((1000:Int)<=(NN:Int))=true:=decide_eq_true hf0
          have hf2:decide (1000<=NN)=true:=by simpa using hfull
          clear hpb hub hk0 hw2
          repeat (first|go_skip|go_guarded|go_step|go_upon)
          go_ret
          rw [HZ2.out]
          exact⟨rfl,HGo.out _ _ ((RAft.same ⟨x1,HX1.out⟩).later B4.out)⟩
         ·have hwn:=wrote_new HVE.out hpb HSb.out hub hk0 (by rw [HNN.out];omega)
          have HZ2:Hid (Z=(changeD (inosR E (E.inos++[⟨(E.clock:Nat),1,md,dt,true⟩])) [en p ((E.inos.length+1:Nat):Int)],0)):=Lib.hid (by rw [HZ.out,hwn];simp [writeE,refuse,firstE,whenE,hpb,HSb.out,hub,hk0,roomB,hw2,HNN.out,hfull])
          have hf0:¬ (1000:Int)<=(NN:Int):=by omega
          have hf1:decide ((1000:Int)<=(NN:Int))=false:=decide_eq_false hf0
          have hf2:decide (1000<=NN)=false:=by simpa using hfull
          have hno:∀ y∈E.names,y.path≠p:=by
           rcases HVE.out.kind (path_ne hpb) with ⟨_,h2⟩|⟨e,_,_,_,_,h2,h3⟩
           ·exact h2
           ·rw [hk0] at h2
            rcases okI_kind h3 with h4|h4|h4<;>omega
          have hwr:=withR_change (D:=E) (p:=p) (i:=⟨(E.clock:Nat),1,md,dt,true⟩) HVE.out.names.sorted hno
          have hn1:Num (m+1) (inosR E (E.inos++[⟨(E.clock:Nat),1,md,dt,true⟩])):=⟨HN.out.clock,HN.out.trace,by have:=HN.out.later;show E.later.length<=_;omega,by have:=HN.out.inos;show (E.inos++[_]).length<=_;rw [List.length_append,List.length_singleton];omega,HN.out.edits,HN.out.path,HN.out.long⟩
          have hn2:Num (m+1) (withR E p ⟨(E.clock:Nat),1,md,dt,true⟩):=by
           rw [hwr]
           exact⟨HN.out.clock,HN.out.trace,by have:=HN.out.later;show (E.later++[_]).length<=_;rw [List.length_append,List.length_singleton];omega,by have:=HN.out.inos;show (E.inos++[_]).length<=_;rw [List.length_append,List.length_singleton];omega,HN.out.edits,HN.out.path,HN.out.long⟩
          have HN1:=Lib.hid hn1
          have HN2:=Lib.hid hn2
          have HWr:=Lib.hid hwr
          have b5:Below w4.heap.size w4 (w4.alloc (.cells #[.int .i64 1,.int .i64 md,.int .i64 (E.clock:Nat),.string DT,.bool true] 128)):=(Below.refl _ _).alloc (Nat.le_refl _) _
          have B5:=Lib.hid (Below.trans B4.out (b5.mono B4.out.size))
          have CW:=kwith_any w (w4.alloc (.cells #[.int .i64 1,.int .i64 md,.int .i64 (E.clock:Nat),.string DT,.bool true] 128)) T1 Q (m+1) (m+1) E p ⟨(E.clock:Nat),1,md,dt,true⟩ ⟨x1,HX1.out.below B5.out⟩ (by have:=HVE.out.names.len;omega) hm HN1.out HN2.out (fun e he=>by have:=((path_iff e.path).1 (HVE.out.names.path e he)).1;omega) HPP.out
          rw [HP.out,HWr.out] at CW
          unfold riV at CW
          simp only at CW
          rw [HDT.out] at CW
          have HCW:=Lib.hid CW
          clear hpb hub hk0 hw2 hwn hfull hno hwr hn1 hn2 CW b5
          repeat (first|(go_at_call 136;refine HCW.out.mono ?_;rintro r w7 ⟨rfl,ha7⟩;simp only [];have HA7:=Lib.hid ha7;clear ha7)|go_skip|go_guarded|go_step|go_upon)
          go_ret
          rw [HZ2.out]
          exact⟨rfl,HGo.out _ _ (RAft.under B5.out HA7.out)⟩
       ·have hk0:kindD E p≠0:=by
         rw [hf.knd]
         rcases okI_kind hf.ok with h|h|h<;>omega
        have hok:=okI_kind hf.ok
        have hkd:=hf.knd
        obtain⟨ik,hik⟩:∃ z,i.kind=z:=⟨_,rfl⟩
        rw [hik] at hok hkd
        have hzn:(0:Int)<=(k:Int):=by omega
        have hzn2:¬ (k:Int)<0:=by omega
        have hzn3:decide ((k:Int)<0)=false:=by simp
        have hzn4:decide ((0:Int)<=(k:Int))=true:=by simp
        have hqn:=hf.qn
        have hqm:=hf.qm
        have hkn:=hf.kn
        have hkl:=hf.kl
        have hsub2:IntKind.i64.wrap (q0:Int)=(q0:Int):=by rw [IntKind.wrap_i64];omega
        have hsub4:Go.RowKit.wrap64 (q0:Int)=(q0:Int):=by unfold Go.RowKit.wrap64;omega
        have u0:=hf.n0
        have u3:=hf.n3
        have ue:=hf.ent
        have z0:=cell_regrown u0
        have z3:=cell_regrown u3
        have ze:=cell_regrown ue
        have zk:=hf.c0
        rw [hik] at zk
        have uk:=zk
        have zk:=cell_regrown uk
        have HF:=Lib.hid hf
        have hr3:=(HX1.out.below B.out).row
        unfold rdC at hr3
        have HR3:=Lib.hid hr3
        have HIk:=Lib.hid hik
        have HK0:=Lib.hid hk0
        obtain⟨kb,hkb⟩:∃ b,(ik != 1)=b:=⟨_,rfl⟩
        clear hf hs3 hr3 hik
        repeat (first|go_skip|go_guarded|go_step|go_upon)
        go_quiet (fail)
        have b4:=NA.below_drewN (Below.refl w3.heap.size w3) nq
        have B4:=Lib.hid (Below.trans B.out (b4.mono B.out.size))
        have HF4:=Lib.hid (HF.out.below b4)
        have HR4:=Lib.hid ((b4.block Q (Array.getElem?_eq_some_iff.1 HR3.out).1).trans HR3.out)
        clear z0 z3 ze zk b4 u0 u3 ue uk
        generalize World.drewN w3 nq=w4 at B4 HF4 HR4 ⊢
        cases kb with
        | true =>
         have hne:ik≠1:=by simpa using hkb
         have HZ2:Hid (Z=(E,73)):=Lib.hid (by
          rw [HZ.out]
          rcases hok with h|h|h
          ·exact absurd h hne
          ·simp [writeE,refuse,firstE,whenE,hpb,HSb.out,hub,hkd,h]
          ·simp [writeE,refuse,firstE,whenE,hpb,HSb.out,hub,hkd,h])
         clear hpb hub hk0 hok hkd hne hkb
         repeat (first|go_skip|go_guarded|go_step|go_upon)
         go_ret
         rw [HZ2.out]
         exact⟨rfl,HGo.out _ _ ((RAft.same ⟨x1,HX1.out⟩).later B4.out)⟩
        | false =>
         have hne:ik=1:=by simpa using hkb
         rw [hne] at hkd
         cases fb with
         | true =>
          have hw2:(fateD E).what=2:=of_decide_eq_true HFb.out.symm
          have HZ2:Hid (Z=(E,71)):=Lib.hid (by rw [HZ.out];simp [writeE,refuse,firstE,whenE,hpb,HSb.out,hub,hkd,roomB,hw2])
          clear hpb hub hk0 hw2 hok hkd hne hkb
          repeat (first|go_skip|go_guarded|go_step|go_upon)
          go_ret
          rw [HZ2.out]
          exact⟨rfl,HGo.out _ _ ((RAft.same ⟨x1,HX1.out⟩).later B4.out)⟩
         | false =>
          have hw2:¬ (fateD E).what=2:=of_decide_eq_false HFb.out.symm
          have hwi:wroteI E dt md i=⟨(E.clock:Nat),1,md,dt,true⟩:=by
           unfold wroteI
           obtain⟨a1,a2,a3,a4,a5⟩:=i
           have:a2=1:=HIk.out.trans hne
           subst this
           rfl
          have HZ2:Hid (Z=({ E with inos:=E.inos.set ((q0+1)-1) ⟨(E.clock:Nat),1,md,dt,true⟩ },0)):=Lib.hid (by
           rw [HZ.out]
           have h1:=HF4.out.set (wroteI E dt md)
           rw [hwi] at h1
           have h2:wroteD E p dt md=setI E p (wroteI E dt md):=by unfold wroteD;rw [if_neg hk0]
           rw [h2,h1]
           simp [writeE,refuse,firstE,whenE,hpb,HSb.out,hub,hkd,roomB,hw2])
          obtain⟨-,-,-,-,-,-,c6,-,-,-,-⟩:=row10 HR4.out
          clear hpb hub hk0 hw2 hok hkd hne hkb hwi
          repeat (first|go_skip|go_guarded|go_step|go_upon)
          have b6:Below w4.heap.size w4 (w4.alloc (.cells #[.int .i64 1,.int .i64 md,.int .i64 (E.clock:Nat),.string DT,.bool true] 128)):=(Below.refl _ _).alloc (Nat.le_refl _) _
          have r6:=heap_alloc_new w4 (.cells #[.int .i64 1,.int .i64 md,.int .i64 (E.clock:Nat),.string DT,.bool true] 128)
          clear c6
          generalize (w4.alloc (.cells #[.int .i64 1,.int .i64 md,.int .i64 (E.clock:Nat),.string DT,.bool true] 128))=w6 at b6 r6 ⊢
          have f0:=(HF4.out.below b6).n0
          have fe:=(HF4.out.below b6).ent
          obtain⟨s0,s1,s2,s3,s4⟩:=row5 r6
          have B6:=Lib.hid (Below.trans B4.out (b6.mono B4.out.size))
          clear b6 r6
          refine wp_region_noPanic ?_
          with_reducible refine QT.region_mix (S:=fun w'=>w'.cell? ⟨Q,0,none⟩=some (.slice (some ⟨g,o,none⟩) n cn)/\w'.cell? ⟨g,o+k*2+1,none⟩=some (.int .i64 ((q0+1:Nat):Int))/\w'.cell? ⟨w4.heap.size,0,none⟩=some (.int .i64 1)/\w'.cell? ⟨w4.heap.size,1,none⟩=some (.int .i64 md)/\w'.cell? ⟨w4.heap.size,2,none⟩=some (.int .i64 (E.clock:Nat))/\w'.cell? ⟨w4.heap.size,3,none⟩=some (.string DT)/\w'.cell? ⟨w4.heap.size,4,none⟩=some (.bool true)) [(true,0),(true,1),(true,2),(true,3),(true,4),(true,5),(true,6),(true,7),(true,8),(true,9)] 10 (by kernel_rfl) (by kernel_rfl) ?_ ?_ ?_
          ·exact fun _ _ _ _ _ h=>h
          ·exact⟨f0,fe,s0,s1,s2,s3,s4⟩
          intro _
          simp only [QT.pickM,List.filterMap_cons,List.filterMap_nil,List.getElem?_cons_succ,List.getElem?_cons_zero,Option.map_some,List.drop_succ_cons,List.drop_zero]
          iterate 10 (refine QT.wpMix_take _ (by rfl) (by intro w' hSw;obtain⟨y0,y1,y2,y3,y4,y5,y6⟩:=hSw;go_simp;first|done|rfl) ?_;try simp only [Act.put,List.setIfInBounds_toArray,List.set_cons_zero,List.set_cons_succ])
          refine QT.wpMix_nil ?_
          have CS2:=kset_any w w6.drew T1 Q (m+1) E (q0+1) ⟨(E.clock:Nat),1,md,dt,true⟩ ⟨x1,HX1.out.below B6.out.drew⟩ hm (by omega) (by have:=HF4.out.len;have:=HF4.out.qn;omega)
          unfold riV at CS2
          simp only at CS2
          rw [HDT.out] at CS2
          have HCS2:=Lib.hid CS2
          clear CS2 f0 fe s0 s1 s2 s3 s4
          repeat (first|(go_at_call 135;fail)|go_skip|go_guarded|go_step|go_upon)
          refine HCS2.out.mono ?_
          rintro r w7 ⟨rfl,ha7⟩
          simp only []
          have HA7:=Lib.hid ha7
          clear ha7
          repeat (first|go_skip|go_guarded|go_step|go_upon)
          refine NoPanic.normal ?_
          repeat (first|go_skip|go_guarded|go_step|go_upon)
          go_ret
          rw [HZ2.out]
          exact⟨rfl,HGo.out _ _ (RAft.under B6.out.drew HA7.out)⟩
 ·have HZ:=Lib.hid (HW1.out h0)
  have hez:(er != 0)=true:=by simpa using h0
  have hez2:(er==0)=false:=by simpa using h0
  clear hx1 h0 hfb HW1 HW2
  repeat (first|go_skip|go_guarded|go_step|go_upon)
  go_ret
  rw [HZ.out]
  exact⟨rfl,HGo.out _ _ (RAft.same ⟨x1,HX1.out⟩)⟩
end RK
end Go.Proofs.YtmohjalanhnhbaaGreatDoor