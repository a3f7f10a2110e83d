/- Texts of this seat, put one behind the other: what its statements share (part 16). -/
import Derived.Test.YtmohjalanhnhbaaGreatDoorMg15
set_option linter.all false
set_option maxRecDepth 100000
set_option maxHeartbeats 25600000
section
namespace Go.Proofs.YtmohjalanhnhbaaGreatDoor
open Go.RowKit Go.Lib Go.BigFrame
namespace RK
open OM TP TM DP DM FP DG TG TR
def repK (ns:List Nd) (p q:List UInt8) (k:Nat):List Nd:=(ns.take k).filter fun e=>decide (e.path≠p)&&decide (e.path≠q)
theorem repK_yes {ns:List Nd} {p q:List UInt8} {k:Nat} {e:Nd} (hx:ns[k]?=some e) (h:¬ (e.path=p∨e.path=q)):repK ns p q (k+1)=repK ns p q k++[e]:=by
 unfold repK
 rw [List.take_add_one,hx,Option.toList_some,List.filter_append]
 have h1:e.path≠p:=fun h2=>h (.inl h2)
 have h2:e.path≠q:=fun h2=>h (.inr h2)
 simp [h1,h2]
theorem repK_no {ns:List Nd} {p q:List UInt8} {k:Nat} {e:Nd} (hx:ns[k]?=some e) (h:e.path=p∨e.path=q):repK ns p q (k+1)=repK ns p q k:=by
 unfold repK
 rw [List.take_add_one,hx,Option.toList_some,List.filter_append]
 rcases h with h|h<;>simp [h]
theorem repK_len (ns:List Nd) (p q:List UInt8) (k:Nat):(repK ns p q k).length<=k:=by
 unfold repK
 exact Nat.le_trans (List.length_filter_le _ _) (by rw [List.length_take];omega)
theorem repK_all {ns:List Nd} {p q:List UInt8} {n:Nat} (h:ns.length<=n):repK ns p q n=delE (delE ns p) q:=by
 unfold repK delE
 rw [List.take_of_length_le h,List.filter_filter]
 apply List.filter_congr
 intro e _
 rw [Bool.and_comm]
theorem kreplace_any (w W:World) (T:Nat->Prop) (Q m:Nat) (D:Dk) (p q:List UInt8) (h:RS w W T Q m D) (hv:V D) (hm:m+1<=1000) (hp:p.length<=1048576) (hq:q.length<=1048576) :
  Calls Tryz.prog 81 #[.pointer (some ⟨Q,0,none⟩),txt p,txt q] W fun r W'=>r=.returned (.int .i64 (replaceD D p q).2)/\RAft w W T Q (m+1) (replaceD D p q).1 W':=by
 obtain⟨P,hP,hPd⟩:=txt_of p
 obtain⟨O,hO,hOd⟩:=txt_of q
 obtain⟨x,hx⟩:=h
 obtain⟨E,hE⟩:∃ E,(stepD D ⟨cReplace,p,q⟩).1=E:=⟨_,rfl⟩
 obtain⟨er,her⟩:∃ e,(stepD D ⟨cReplace,p,q⟩).2=e:=⟨_,rfl⟩
 have hnum:=step_num hx.num ⟨cReplace,p,q⟩
 have CS:Hid (Calls Tryz.prog 132 #[.pointer (some ⟨Q,0,none⟩),.string ⟨#[82,101,112,108,97,99,101]⟩,.string P,.string O] W fun r w'=>(∃ b,r=.returned (.tuple #[.int .i64 er,.bool b])/\(er=0->b=decide ((fateD E).what=2)))/\RAft w W T Q (m+1) E w'):=Lib.hid (by
  have:=kstep_any w W T Q m D ⟨cReplace,p,q⟩ ⟨x,hx⟩ hv hm
  unfold fullB at this
  rw [hE,her] at this
  simp only at this
  rw [hP] at this
  rw [hO] at this
  exact this)
 rw [hE] at hnum
 have HW1:Hid (er≠0->replaceD D p q=(E,er)):=Lib.hid (fun h0=>by
  unfold replaceD
  rw [after_no (by rw [her];exact h0),← hE,← her])
 have HW2:Hid (er=0->replaceD D p q=refuse (replaceE E p q) E (changeD E [en p 0,en q (inoN E.names p)])):=Lib.hid (fun h0=>by
  unfold replaceD
  rw [after_yes (by rw [her];exact h0),← hE])
 have HVE:Hid (V E):=Lib.hid (hE ▸ hv.step ⟨cReplace,p,q⟩)
 have HN:=Lib.hid hnum
 have HP:=Lib.hid hP
 have HPd:=Lib.hid hPd
 have HPP:=Lib.hid hp
 have HO:=Lib.hid hO
 have HOd:=Lib.hid hOd
 have HPO:=Lib.hid hq
 obtain⟨Z,hZ⟩:∃ Z,replaceD D p q=Z:=⟨_,rfl⟩
 rw [hZ] at HW1 HW2
 rw [hZ,hP,hO]
 clear hx hv hE her hnum hZ hP hPd hp hO hOd hq
 go_enter Tryz.func81,Tryz.ntmps81
 repeat (first|(go_at_call 132;fail)|go_skip|go_guarded|go_step|go_upon)
 refine CS.out.mono ?_
 rintro r w1 ⟨⟨fb,rfl,hfb⟩,T1,⟨x1,hx1⟩,hs1,ho1⟩
 simp only []
 have HGo:Hid (∀ D' W',RAft w w1 T1 Q (m+1) D' W'->RAft w W T Q (m+1) D' W'):=Lib.hid (fun D' W' hh=>RAft.chain hs1 ho1 hh)
 have HX1:=Lib.hid hx1
 clear hs1 ho1 CS
 by_cases h0:er=0
 ·have HZ:=Lib.hid (HW2.out h0)
  have HFb:=Lib.hid (hfb h0)
  subst h0
  clear hfb HW1 HW2
  have B:=Lib.hid (Below.refl w1.heap.size w1)
  clear hx1
  have CP:=Lib.hid (fun V=>rpath_txt P p HPd.out HPP.out V)
  obtain⟨pb,hpb⟩:∃ b,NP.pathL p=b:=⟨_,rfl⟩
  rw [hpb] at CP
  have CQ:=Lib.hid (fun V=>rpath_txt O q HOd.out HPO.out V)
  obtain⟨qb,hqb⟩:∃ b,NP.pathL q=b:=⟨_,rfl⟩
  rw [hqb] at CQ
  have HFi:Hid (∀ V,Below w1.heap.size w1 V->Calls Tryz.prog 134 #[.pointer (some ⟨Q,0,none⟩),.string P] V fun r w'=>∃ z,r=.returned (.int .i64 z)/\FindSays E.names p z/\Below V.heap.size V w'):=Lib.hid (fun V hV=>by
   have:=kfind_any w V T1 Q (m+1) E p ⟨x1,HX1.out.below hV⟩ HVE.out.names.len
   rw [HP.out] at this
   exact this)
  have HDp:Hid (∀ V,Below w1.heap.size w1 V->Calls Tryz.prog 133 #[.pointer (some ⟨Q,0,none⟩),.string P] V fun r w'=>r=.returned (.bool (decide (kindD E p=2)))/\Below V.heap.size V w'):=Lib.hid (fun V hV=>by
   have:=kdir_any w V T1 Q (m+1) E p ⟨x1,HX1.out.below hV⟩ HVE.out.fit
   rw [HP.out] at this
   exact this)
  have HDq:Hid (∀ V,Below w1.heap.size w1 V->Calls Tryz.prog 133 #[.pointer (some ⟨Q,0,none⟩),.string O] V fun r w'=>r=.returned (.bool (decide (kindD E q=2)))/\Below V.heap.size V w'):=Lib.hid (fun V hV=>by
   have:=kdir_any w V T1 Q (m+1) E q ⟨x1,HX1.out.below hV⟩ HVE.out.fit
   rw [HO.out] at this
   exact this)
  obtain⟨U,hU,hUc⟩:=rparent_txt O q HOd.out HPO.out
  have HUc:=Lib.hid hUc
  have HDu:Hid (∀ V,Below w1.heap.size w1 V->Calls Tryz.prog 133 #[.pointer (some ⟨Q,0,none⟩),.string U] V fun r w'=>r=.returned (.bool (upB E q))/\Below V.heap.size V w'):=Lib.hid (fun V hV=>by
   have:=kdir_any w V T1 Q (m+1) E (NP.parentL q) ⟨x1,HX1.out.below hV⟩ HVE.out.fit
   rw [show txt (NP.parentL q)=.string U by rw [<- hU,txt_data]] at this
   exact this)
  have HO':=Lib.hid HO.out
  clear hU hUc
  cases pb with
  | false =>
   have HZ2:Hid (Z=(E,11)):=Lib.hid (by rw [HZ.out];simp [replaceE,refuse,firstE,whenE,hpb])
   clear hpb hqb
   repeat (first|(go_at_call 86;(with_reducible refine (CP.out _).mono ?_);rintro r w2 ⟨rfl,hb2⟩;simp only [];have B:=Lib.hid (Below.trans B.out (hb2.mono B.out.size));clear hb2)|go_skip|go_guarded|go_step|go_upon)
   go_ret
   rw [HZ2.out]
   exact⟨rfl,HGo.out _ _ ((RAft.same ⟨x1,HX1.out⟩).later B.out)⟩
  | true =>
   cases qb with
   | false =>
    have HZ2:Hid (Z=(E,11)):=Lib.hid (by rw [HZ.out];simp [replaceE,refuse,firstE,whenE,hpb,hqb])
    clear hpb hqb
    repeat (first|(go_at_call 86;(with_reducible refine (CP.out _).mono ?_);rintro r w2 ⟨rfl,hb2⟩;simp only [];have B:=Lib.hid (Below.trans B.out (hb2.mono B.out.size));clear hb2)|(go_at_call 86;(with_reducible refine (CQ.out _).mono ?_);rintro r w2 ⟨rfl,hb2⟩;simp only [];have B:=Lib.hid (Below.trans B.out (hb2.mono B.out.size));clear hb2)|go_skip|go_guarded|go_step|go_upon)
    go_ret
    rw [HZ2.out]
    exact⟨rfl,HGo.out _ _ ((RAft.same ⟨x1,HX1.out⟩).later B.out)⟩
   | true =>
    by_cases heq:q=p
    ·have hbe:(P.toList==O.toList)=true:=by rw [Lib.toList_data,Lib.toList_data,HPd.out,HOd.out,heq];simp
     have HZ2:Hid (Z=(E,2)):=Lib.hid (by rw [HZ.out];simp [replaceE,refuse,firstE,whenE,hpb,hqb,heq])
     clear heq hpb hqb
     repeat (first|(go_at_call 86;(with_reducible refine (CP.out _).mono ?_);rintro r w2 ⟨rfl,hb2⟩;simp only [];have B:=Lib.hid (Below.trans B.out (hb2.mono B.out.size));clear hb2)|(go_at_call 86;(with_reducible refine (CQ.out _).mono ?_);rintro r w2 ⟨rfl,hb2⟩;simp only [];have B:=Lib.hid (Below.trans B.out (hb2.mono B.out.size));clear hb2)|go_skip|go_guarded|go_step|go_upon)
     go_ret
     rw [HZ2.out]
     exact⟨rfl,HGo.out _ _ ((RAft.same ⟨x1,HX1.out⟩).later B.out)⟩
    ·have hbe:(P.toList==O.toList)=false:=by rw [Lib.toList_data,Lib.toList_data,HPd.out,HOd.out];simpa using fun h=>heq h.symm
     repeat (first|(go_at_call 86;(with_reducible refine (CP.out _).mono ?_);rintro r w2 ⟨rfl,hb2⟩;simp only [];have B:=Lib.hid (Below.trans B.out (hb2.mono B.out.size));clear hb2)|(go_at_call 86;(with_reducible refine (CQ.out _).mono ?_);rintro r w2 ⟨rfl,hb2⟩;simp only [];have B:=Lib.hid (Below.trans B.out (hb2.mono B.out.size));clear hb2)|(go_at_call 134;fail)|go_skip|go_guarded|go_step|go_upon)
     refine (HFi.out _ B.out).mono ?_
     rintro r w3 ⟨z,rfl,hs3,hb3⟩
     simp only []
     have B:=Lib.hid (Below.trans B.out (hb3.mono B.out.size))
     clear hb3
     rcases found_at (HX1.out.below B.out) HVE.out (path_ne hpb) hs3 with ⟨rfl,hk0,hfn⟩|⟨k,q0,i,n,ni,g,o,cn,gi,ci,rfl,hf⟩
     ·have HZ2:Hid (Z=(E,74)):=Lib.hid (by rw [HZ.out];simp [replaceE,refuse,firstE,whenE,hpb,hqb,heq,hk0])
      clear hpb hqb heq hk0 hfn hs3
      repeat (first|go_skip|go_guarded|go_step|go_upon)
      go_ret
      rw [HZ2.out]
      exact⟨rfl,HGo.out _ _ ((RAft.same ⟨x1,HX1.out⟩).later B.out)⟩
     ·have hk0:kindD E p≠0:=by
       rw [hf.knd]
       rcases okI_kind hf.ok with h|h|h<;>omega
      have hzn:¬ ((k:Int)<0):=by omega
      have hkl:=hf.kl
      have hkn:=hf.kn
      have fe:=hf.ent
      have HIn:=Lib.hid hf.inN
      have f0:=hf.n0
      have hlen:E.names.length=n:=by
       have hr:=(HX1.out.below B.out).row
       unfold rdC at hr
       obtain⟨r0,-⟩:=row10 hr
       rw [f0] at r0
       injection r0 with r0
       injection r0 with _ r0 _
       exact r0.symm
      have HLen:=Lib.hid hlen
      have hnm:n<=1000:=by have:=HVE.out.names.len;omega
      have F0:=Lib.hid f0
      have HL3:=Lib.hid hf.lt
      have HNames:=Lib.hid (HX1.out.below B.out).names
      have hnx:x1.an=some ⟨g,o,none⟩:=by
       have hr:=(HX1.out.below B.out).row
       unfold rdC at hr
       obtain⟨r0,-⟩:=row10 hr
       rw [f0] at r0
       injection r0 with r0
       injection r0 with r0 _ _
       exact r0.symm
      rw [hnx] at HNames
      clear hlen hnx f0
      have f0:=F0.out
      clear hs3 hf
      have ADp:=Lib.hid HDp.out
      obtain⟨a,ha⟩:∃ a,decide (kindD E p=2)=a:=⟨_,rfl⟩
      obtain⟨b,hb⟩:∃ b,decide (kindD E q=2)=b:=⟨_,rfl⟩
      obtain⟨c,hc⟩:∃ c,upB E q=c:=⟨_,rfl⟩
      rw [ha] at HDp
      rw [hb] at HDq
      rw [hc] at HDu
      clear ADp
      cases a with
      | true =>
       have ha2:kindD E p=2:=of_decide_eq_true ha
       have HZ2:Hid (Z=(E,73)):=Lib.hid (by rw [HZ.out];simp [replaceE,refuse,firstE,whenE,hpb,hqb,heq,hk0,ha2])
       clear hpb hqb heq hk0 ha hb hc ha2 f0 fe
       repeat (first|(go_at_call 133;(with_reducible refine (HDp.out _ B.out).mono ?_);rintro r w2 ⟨rfl,hb2⟩;simp only [];have B:=Lib.hid (Below.trans B.out (hb2.mono B.out.size));clear hb2)|go_skip|go_guarded|go_step|go_upon)
       go_ret
       rw [HZ2.out]
       exact⟨rfl,HGo.out _ _ ((RAft.same ⟨x1,HX1.out⟩).later B.out)⟩
      | false =>
       have ha2:¬ kindD E p=2:=of_decide_eq_false ha
       cases b with
       | true =>
        have hb2:kindD E q=2:=of_decide_eq_true hb
        have HZ2:Hid (Z=(E,73)):=Lib.hid (by rw [HZ.out];simp [replaceE,refuse,firstE,whenE,hpb,hqb,heq,hk0,ha2,hb2])
        clear hpb hqb heq hk0 ha hb hc ha2 hb2 f0 fe
        repeat (first|(go_at_call 133;(with_reducible refine (HDp.out _ B.out).mono ?_);rintro r w2 ⟨rfl,hb2⟩;simp only [];have B:=Lib.hid (Below.trans B.out (hb2.mono B.out.size));clear hb2)|(go_at_call 133;(with_reducible refine (HDq.out _ B.out).mono ?_);rintro r w2 ⟨rfl,hb2⟩;simp only [];have B:=Lib.hid (Below.trans B.out (hb2.mono B.out.size));clear hb2)|go_skip|go_guarded|go_step|go_upon)
        go_ret
        rw [HZ2.out]
        exact⟨rfl,HGo.out _ _ ((RAft.same ⟨x1,HX1.out⟩).later B.out)⟩
       | false =>
        have hb2:¬ kindD E q=2:=of_decide_eq_false hb
        cases c with
        | false =>
         have HZ2:Hid (Z=(E,62)):=Lib.hid (by rw [HZ.out];simp [replaceE,refuse,firstE,whenE,hpb,hqb,heq,hk0,ha2,hb2,hc])
         clear hpb hqb heq hk0 ha hb hc ha2 hb2 f0 fe
         repeat (first|(go_at_call 133;(with_reducible refine (HDp.out _ B.out).mono ?_);rintro r w2 ⟨rfl,hb2⟩;simp only [];have B:=Lib.hid (Below.trans B.out (hb2.mono B.out.size));clear hb2)|(go_at_call 133;(with_reducible refine (HDq.out _ B.out).mono ?_);rintro r w2 ⟨rfl,hb2⟩;simp only [];have B:=Lib.hid (Below.trans B.out (hb2.mono B.out.size));clear hb2)|(go_at_call 133;(with_reducible refine (HDu.out _ B.out).mono ?_);rintro r w2 ⟨rfl,hb2⟩;simp only [];have B:=Lib.hid (Below.trans B.out (hb2.mono B.out.size));clear hb2)|(go_at_call 89;(with_reducible refine (HUc.out _).mono ?_);rintro r w2 ⟨rfl,hb2⟩;simp only [];have B:=Lib.hid (Below.trans B.out (hb2.mono B.out.size));clear hb2)|go_skip|go_guarded|go_step|go_upon)
         go_ret
         rw [HZ2.out]
         exact⟨rfl,HGo.out _ _ ((RAft.same ⟨x1,HX1.out⟩).later B.out)⟩
        | true =>
         have HZ2:Hid (Z=(changeD E [en p 0,en q (inoN E.names p)],0)):=Lib.hid (by rw [HZ.out];simp [replaceE,refuse,firstE,whenE,hpb,hqb,heq,hk0,ha2,hb2,hc])
         have FE:=Lib.hid fe
         clear hpb hqb heq hk0 ha hb hc ha2 hb2 f0 fe
         have BF:=Lib.hid (Below.refl w3.heap.size w3)
         have B3:=Lib.hid B.out
         repeat (first|(go_at_call 133;(with_reducible refine (HDp.out _ B.out).mono ?_);rintro r w2 ⟨rfl,hb2⟩;simp only [];have B:=Lib.hid (Below.trans B.out (hb2.mono B.out.size));have BF:=Lib.hid (Below.trans BF.out (hb2.mono BF.out.size));clear hb2)|(go_at_call 133;(with_reducible refine (HDq.out _ B.out).mono ?_);rintro r w2 ⟨rfl,hb2⟩;simp only [];have B:=Lib.hid (Below.trans B.out (hb2.mono B.out.size));have BF:=Lib.hid (Below.trans BF.out (hb2.mono BF.out.size));clear hb2)|(go_at_call 89;(with_reducible refine (HUc.out _).mono ?_);rintro r w2 ⟨rfl,hb2⟩;simp only [];have B:=Lib.hid (Below.trans B.out (hb2.mono B.out.size));have BF:=Lib.hid (Below.trans BF.out (hb2.mono BF.out.size));clear hb2)|(go_at_call 133;(with_reducible refine (HDu.out _ B.out).mono ?_);rintro r w2 ⟨rfl,hb2⟩;simp only [];have B:=Lib.hid (Below.trans B.out (hb2.mono B.out.size));have BF:=Lib.hid (Below.trans BF.out (hb2.mono BF.out.size));have f0:=(BF.out.cell (p:=⟨Q,0,none⟩) HL3.out.1).trans F0.out;have fe:=(BF.out.cell (p:=⟨g,o+k*2+1,none⟩) HL3.out.2.1).trans FE.out;clear hb2)|go_skip|go_guarded|go_step|go_upon)
         obtain⟨i1,hi1,hy0,hy1,hy2⟩:=info_parts infoRE
         repeat (first|go_skip|go_guarded|go_step|go_upon)
         go_loopw [11,12] (fun s11 s12 wr=>∃ j:Nat,s12=.int .i64 j/\j<=n/\wr.ownsRow w3.heap.size 130 2 s11 (repK E.names p q j).length (resC (repK E.names p q j))/\Below w3.heap.size w3 wr) (fun _ s12 _=>n-(Go.RowKit.intOf s12).toNat)
         case atStart=>exact⟨0,rfl,Nat.zero_le _,World.ownsRow_nil _ _ _ _,BF.out⟩
         case round =>
          obtain⟨j,rfl,hj,ho,hb⟩:=hrel
          have HO:=Lib.hid ho
          have HB:=Lib.hid hb
          have hbs:=hb.size
          have HKl:=Lib.hid (repK_len E.names p q j)
          have c0:=(hb.cell (p:=⟨Q,0,none⟩) HL3.out.1).trans F0.out
          have hLr:=HNames.out.below hb
          clear ho hb
          by_cases hlt:j<n
          ·have hjz:(j:Int)<n:=by omega
           obtain⟨g2,o2,he2,_,_,_,hc⟩:=hLr (by have:=HLen.out;omega)
           injection he2 with he2
           injection he2 with hg2 ho2 _
           subst hg2 ho2
           obtain⟨e,hx⟩:∃ x,E.names[j]?=some x:=⟨_,List.getElem?_eq_getElem (by rw [HLen.out];exact hlt)⟩
           obtain⟨c1,c2⟩:=hc j e hx
           obtain⟨X,hX,hXd⟩:=txt_of e.path
           obtain⟨kd,hkd⟩:∃ z,e.kind=z:=⟨_,rfl⟩
           rw [hX] at c1
           rw [hkd] at c2
           have hep:=HVE.out.names.path e (List.mem_of_getElem? hx)
           by_cases he:e.path=p∨e.path=q
           ·have HK:=Lib.hid (repK_no hx he)
            by_cases he1:e.path=p
            ·have hb1:(X.toList==P.toList)=true:=by rw [Lib.toList_data,Lib.toList_data,hXd,HPd.out,he1];simp
             have hb2:(!(X.toList==P.toList))=false:=by rw [hb1];rfl
             clear hc hx hX hXd he hep hLr hlt hkd he1
             repeat (first|go_skip|go_guarded|go_step|go_upon)
             exact⟨⟨j+1,by go_num,by omega,by rw [HK.out];exact HO.out,HB.out⟩,by simp [Go.RowKit.intOf];omega⟩
            ·have hb1:(X.toList==P.toList)=false:=by rw [Lib.toList_data,Lib.toList_data,hXd,HPd.out];simpa using he1
             have hb2:(X.toList==O.toList)=true:=by rw [Lib.toList_data,Lib.toList_data,hXd,HOd.out,he.resolve_left he1];simp
             clear hc hx hX hXd he hep hLr hlt hkd he1
             repeat (first|go_skip|go_guarded|go_step|go_upon)
             exact⟨⟨j+1,by go_num,by omega,by rw [HK.out];exact HO.out,HB.out⟩,by simp [Go.RowKit.intOf];omega⟩
           ·have hb1:(X.toList==P.toList)=false:=by rw [Lib.toList_data,Lib.toList_data,hXd,HPd.out];simpa using fun h=>he (.inl h)
            have hb2:(X.toList==O.toList)=false:=by rw [Lib.toList_data,Lib.toList_data,hXd,HOd.out];simpa using fun h=>he (.inr h)
            have HK:=Lib.hid (repK_yes hx he)
            have HNw:Hid (∀ (W:World) (j:Nat) (u:Value),(reC e)[j]?=some u->(W.alloc (.cells #[.string X,.int .i64 kd] 130)).cell? ((⟨W.heap.size,0,none⟩:Addr).add j)=some u):=Lib.hid (fun W=>re_new W e _ _ hX hkd)
            clear hc hx hX hXd he hep hLr hlt hkd
            repeat (first
             | (at_builtin;refine wpList_append_own _ rfl _ _ 53 rfl w3.heap.size 130 i1 (.agg #[.string ⟨#[]⟩,.int .i64 0]) 2 24 Tryz.underlying53 hi1 hy0 hy1 hy2 rfl (by decide) _ _ _ rfl (HO.out.alloc _) ⟨wr.heap.size,0,none⟩ 1 1 (reC e) rfl rfl (HNw.out _) (re_one _) (by have:=HKl.out;unfold maxLen;omega) (by have:=HKl.out;omega) (by simp;omega) ?_;intro v' w8 hown' hgrow8 hnil8;have HO8:=Lib.hid hown';have HB8:Hid (Below w3.heap.size w3 w8):=Lib.hid ((HB.out.alloc hbs _).grown hgrow8 (by simp;omega) (fun j hj=>(HO.out.lt j hj).1));clear hown' hgrow8 hnil8)
             | go_skip|go_guarded|go_step|go_upon)
            refine⟨⟨j+1,by go_num,by omega,?_,HB8.out⟩,by simp [Go.RowKit.intOf];omega⟩
            rw [HK.out,List.length_append,List.length_singleton,res_snoc]
            exact HO8.out
          ·have hjz:¬ (j:Int)<n:=by omega
           have hjn:j=n:=by omega
           have HRep:Hid (repK E.names p q j=delE (delE E.names p) q):=Lib.hid (by rw [hjn];exact repK_all (by rw [HLen.out];exact Nat.le_refl _))
           have hne:∀ y∈delE (delE E.names p) q,y.path≠q:=fun y hy=>(mem_del.1 hy).2
           obtain⟨R,hR⟩:∃ R,delE (delE E.names p) q=R:=⟨_,rfl⟩
           rw [hR] at HRep
           have HRs:Hid (sortK (R++[en q ((q0+1:Nat):Int)]) (R.length+1)=withE E.names [en p 0,en q (inoN E.names p)]):=Lib.hid (by
            have h1:=sortK_more (e:=en q ((q0+1:Nat):Int)) (sorted_del (sorted_del HVE.out.names.sorted p) q) hne
            rw [hR] at h1
            rw [h1,HIn.out]
            show insE R _=putE (putE E.names (en p 0)) (en q ((q0+1:Nat):Int))
            unfold putE
            rw [if_pos (show (en p 0).kind=0 from rfl),if_neg (show ¬ (en q ((q0+1:Nat):Int)).kind=0 by show ((q0+1:Nat):Int)≠0;omega)]
            show _=insE (delE (delE E.names p) q) _
            rw [hR])
           have HRp:Hid (∀ e∈R++[en q ((q0+1:Nat):Int)],e.path.length<=1048576):=Lib.hid (fun e he=>by
            rcases List.mem_append.1 he with h|h
            ·rw [<- hR] at h
             have h1:=HVE.out.names.path e (mem_del.1 (mem_del.1 h).1).1
             have:=((path_iff e.path).1 h1).1
             omega
            ·rw [List.mem_singleton.1 h]
             exact HPO.out)
           rw [HRep.out] at HO HKl
           have HNw:Hid (∀ (W:World) (j:Nat) (u:Value),(reC (en q ((q0+1:Nat):Int)))[j]?=some u->(W.alloc (.cells #[.string O,.int .i64 ((q0+1:Nat):Int)] 130)).cell? ((⟨W.heap.size,0,none⟩:Addr).add j)=some u):=Lib.hid (fun W=>re_new W (en q ((q0+1:Nat):Int)) _ _ HO'.out rfl)
           clear hlt hLr hne hR
           repeat (first
            | (at_builtin;refine wpList_append_own _ rfl _ _ 53 rfl w3.heap.size 130 i1 (.agg #[.string ⟨#[]⟩,.int .i64 0]) 2 24 Tryz.underlying53 hi1 hy0 hy1 hy2 rfl (by decide) _ _ _ rfl (HO.out.alloc _) ⟨wr.heap.size,0,none⟩ 1 1 (reC (en q ((q0+1:Nat):Int))) rfl rfl (HNw.out _) (re_one _) (by have:=HKl.out;unfold maxLen;omega) (by have:=HKl.out;omega) (by simp;omega) ?_;intro v' w8 hown' hgrow8 hnil8;have HO8:=Lib.hid hown';have HB8:Hid (Below w3.heap.size w3 w8):=Lib.hid ((HB.out.alloc hbs _).grown hgrow8 (by simp;omega) (fun j hj=>(HO.out.lt j hj).1));clear hown' hgrow8 hnil8)
            | (go_at_call 138;fail)|go_skip|go_guarded|go_step|go_upon)
           have ho8:=HO8.out
           rw [<- res_snoc,show R.length+1=(R++[en q ((q0+1:Nat):Int)]).length by simp] at ho8
           obtain⟨a6,c6,rfl,hL6⟩:=layR_own (T:=fun _=>True) ho8 (fun _ _=>trivial)
           have B6:Hid (Below w1.heap.size w1 w8):=Lib.hid (Below.trans B3.out (HB8.out.mono B3.out.size))
           have hrl:(R++[en q ((q0+1:Nat):Int)]).length=R.length+1:=by simp
           have hcg:chgR E (sortK (R++[en q ((q0+1:Nat):Int)]) (R++[en q ((q0+1:Nat):Int)]).length)=changeD E [en p 0,en q (inoN E.names p)]:=by
            rw [hrl]
            unfold chgR changeD
            rw [HRs.out]
           have CC:=kchanged_any w w8 T1 Q (m+1) (m+1) E (R++[en q ((q0+1:Nat):Int)]) a6 c6 ⟨x1,HX1.out.below B6.out⟩ (fun _=>True) hL6 (by rw [hrl];have:=HKl.out;omega) HRp.out hm (by rw [hcg];exact HN.out.change _)
           rw [hcg] at CC
           have HCC:=Lib.hid CC
           obtain⟨n6,hn6⟩:∃ n,(R++[en q ((q0+1:Nat):Int)]).length=n:=⟨_,rfl⟩
           rw [hn6] at HCC ⊢
           clear hL6 ho8 CC hcg hrl hn6
           refine HCC.out.mono ?_
           rintro r w7 ⟨rfl,ha7⟩
           simp only []
           have HA7:=Lib.hid ha7
           clear ha7
           repeat (first|go_skip|go_guarded|go_step|go_upon)
           go_ret
           rw [HZ2.out]
           exact⟨rfl,HGo.out _ _ (RAft.under B6.out HA7.out)⟩
 ·have HZ:=Lib.hid (HW1.out h0)
  have hez:(er != 0)=true:=by simpa using h0
  have hez2:(er==0)=false:=by simpa using h0
  clear hx1 h0 hfb HW1 HW2
  repeat (first|go_skip|go_guarded|go_step|go_upon)
  go_ret
  rw [HZ.out]
  exact⟨rfl,HGo.out _ _ (RAft.same ⟨x1,HX1.out⟩)⟩
end RK
end Go.Proofs.YtmohjalanhnhbaaGreatDoor
end

section
namespace Go.Proofs.YtmohjalanhnhbaaGreatDoor
open Go.RowKit Go.Lib Go.BigFrame
namespace RK
open OM TP TM DP DM FP DG TG TR
theorem kremove_any (w W:World) (T:Nat->Prop) (Q m:Nat) (D:Dk) (p:List UInt8) (h:RS w W T Q m D) (hv:V D) (hm:m+1<=1000) (hp:p.length<=1048576) :
  Calls Tryz.prog 79 #[.pointer (some ⟨Q,0,none⟩),txt p] W fun r W'=>r=.returned (.int .i64 (removeD D p).2)/\RAft w W T Q (m+1) (removeD D p).1 W':=by
 obtain⟨P,hP,hPd⟩:=txt_of p
 obtain⟨x,hx⟩:=h
 obtain⟨E,hE⟩:∃ E,(stepD D ⟨cRemove,p,[]⟩).1=E:=⟨_,rfl⟩
 obtain⟨er,her⟩:∃ e,(stepD D ⟨cRemove,p,[]⟩).2=e:=⟨_,rfl⟩
 have hnum:=step_num hx.num ⟨cRemove,p,[]⟩
 have CS:Hid (Calls Tryz.prog 132 #[.pointer (some ⟨Q,0,none⟩),.string ⟨#[82,101,109,111,118,101]⟩,.string P,.string ⟨#[]⟩] W fun r w'=>(∃ b,r=.returned (.tuple #[.int .i64 er,.bool b])/\(er=0->b=decide ((fateD E).what=2)))/\RAft w W T Q (m+1) E w'):=Lib.hid (by
  have:=kstep_any w W T Q m D ⟨cRemove,p,[]⟩ ⟨x,hx⟩ hv hm
  unfold fullB at this
  rw [hE,her] at this
  simp only at this
  rw [hP] at this
  exact this)
 rw [hE] at hnum
 have HW1:Hid (er≠0->removeD D p=(E,er)):=Lib.hid (fun h0=>by
  unfold removeD
  rw [after_no (by rw [her];exact h0),← hE,← her])
 have HW2:Hid (er=0->removeD D p=refuse (removeE E p) E (changeD E [en p 0])):=Lib.hid (fun h0=>by
  unfold removeD
  rw [after_yes (by rw [her];exact h0),← hE])
 have HVE:Hid (V E):=Lib.hid (hE ▸ hv.step ⟨cRemove,p,[]⟩)
 have HN:=Lib.hid hnum
 have HP:=Lib.hid hP
 have HPd:=Lib.hid hPd
 have HPP:=Lib.hid hp
 obtain⟨Z,hZ⟩:∃ Z,removeD D p=Z:=⟨_,rfl⟩
 rw [hZ] at HW1 HW2
 rw [hZ,hP]
 clear hx hv hE her hnum hZ hP hPd hp
 go_enter Tryz.func79,Tryz.ntmps79
 repeat (first|(go_at_call 132;fail)|go_skip|go_guarded|go_step|go_upon)
 refine CS.out.mono ?_
 rintro r w1 ⟨⟨fb,rfl,hfb⟩,T1,⟨x1,hx1⟩,hs1,ho1⟩
 simp only []
 have HGo:Hid (∀ D' W',RAft w w1 T1 Q (m+1) D' W'->RAft w W T Q (m+1) D' W'):=Lib.hid (fun D' W' hh=>RAft.chain hs1 ho1 hh)
 have HX1:=Lib.hid hx1
 clear hs1 ho1 CS
 by_cases h0:er=0
 ·have HZ:=Lib.hid (HW2.out h0)
  have HFb:=Lib.hid (hfb h0)
  subst h0
  clear hfb HW1 HW2
  have B:=Lib.hid (Below.refl w1.heap.size w1)
  clear hx1
  have CP:=Lib.hid (fun V=>rpath_txt P p HPd.out HPP.out V)
  obtain⟨pb,hpb⟩:∃ b,NP.pathL p=b:=⟨_,rfl⟩
  rw [hpb] at CP
  have HFi:Hid (∀ V,Below w1.heap.size w1 V->Calls Tryz.prog 134 #[.pointer (some ⟨Q,0,none⟩),.string P] V fun r w'=>∃ z,r=.returned (.int .i64 z)/\FindSays E.names p z/\Below V.heap.size V w'):=Lib.hid (fun V hV=>by
   have:=kfind_any w V T1 Q (m+1) E p ⟨x1,HX1.out.below hV⟩ HVE.out.names.len
   rw [HP.out] at this
   exact this)
  cases pb with
  | false =>
   have HZ2:Hid (Z=(E,11)):=Lib.hid (by rw [HZ.out];simp [removeE,refuse,firstE,whenE,hpb])
   clear hpb
   repeat (first|(go_at_call 86;(with_reducible refine (CP.out _).mono ?_);rintro r w2 ⟨rfl,hb2⟩;simp only [];have B:=Lib.hid (Below.trans B.out (hb2.mono B.out.size));clear hb2)|go_skip|go_guarded|go_step|go_upon)
   go_ret
   rw [HZ2.out]
   exact⟨rfl,HGo.out _ _ ((RAft.same ⟨x1,HX1.out⟩).later B.out)⟩
  | true =>
   repeat (first|(go_at_call 86;(with_reducible refine (CP.out _).mono ?_);rintro r w2 ⟨rfl,hb2⟩;simp only [];have B:=Lib.hid (Below.trans B.out (hb2.mono B.out.size));clear hb2)|(go_at_call 134;fail)|go_skip|go_guarded|go_step|go_upon)
   refine (HFi.out _ B.out).mono ?_
   rintro r w3 ⟨z,rfl,hs3,hb3⟩
   simp only []
   have B:=Lib.hid (Below.trans B.out (hb3.mono B.out.size))
   clear hb3
   rcases found_at (HX1.out.below B.out) HVE.out (path_ne hpb) hs3 with ⟨rfl,hk0,hfn⟩|⟨k,q0,i,n,ni,g,o,cn,gi,ci,rfl,hf⟩
   ·have HZ2:Hid (Z=(E,74)):=Lib.hid (by rw [HZ.out];simp [removeE,refuse,firstE,whenE,hpb,hk0])
    clear hpb hk0 hfn hs3
    repeat (first|go_skip|go_guarded|go_step|go_upon)
    go_ret
    rw [HZ2.out]
    exact⟨rfl,HGo.out _ _ ((RAft.same ⟨x1,HX1.out⟩).later B.out)⟩
   ·have hk0:kindD E p≠0:=by
     rw [hf.knd]
     rcases okI_kind hf.ok with h|h|h<;>omega
    have hzn:¬ ((k:Int)<0):=by omega
    have HK0:=Lib.hid hk0
    have f0:=hf.n0
    have hlen:E.names.length=n:=by
     have hr:=(HX1.out.below B.out).row
     unfold rdC at hr
     obtain⟨r0,-⟩:=row10 hr
     rw [f0] at r0
     injection r0 with r0
     injection r0 with _ r0 _
     exact r0.symm
    have HLen:=Lib.hid hlen
    have hnm:n<=1000:=by have:=HVE.out.names.len;omega
    have F0:=Lib.hid f0
    have hl3:=hf.lt
    have HL3:=Lib.hid hl3
    have HNames:=Lib.hid (HX1.out.below B.out).names
    have hnx:x1.an=some ⟨g,o,none⟩:=by
     have hr:=(HX1.out.below B.out).row
     unfold rdC at hr
     obtain⟨r0,-⟩:=row10 hr
     rw [f0] at r0
     injection r0 with r0
     injection r0 with r0 _ _
     exact r0.symm
    rw [hnx] at HNames
    have hkl:=hf.kl
    have B3:=Lib.hid B.out
    clear hf hs3 hk0 hlen hnx
    repeat (first|go_skip|go_guarded|go_step|go_upon)
    go_loopw [7] (fun s7 wr=>∃ j:Nat,s7=.int .i64 j/\j<=n/\(∀ (a:Nat) (e:Nd),a<j->E.names[a]?=some e->NP.upL e.path≠p)/\Below w3.heap.size w3 wr) (fun s7 _=>n-(Go.RowKit.intOf s7).toNat)
    case atStart=>exact⟨0,rfl,Nat.zero_le _,fun a e ha=>by omega,Below.refl _ _⟩
    case round =>
     obtain⟨j,rfl,hj,hno,hb⟩:=hrel
     have HNo:=Lib.hid hno
     have HB:=Lib.hid hb
     have c0:=(hb.cell (p:=⟨Q,0,none⟩) HL3.out.1).trans F0.out
     have hLr:=HNames.out.below hb
     clear hno hb
     by_cases hlt:j<n
     ·have hjz:(j:Int)<n:=by omega
      obtain⟨g2,o2,he2,_,_,_,hc⟩:=hLr (by have:=HLen.out;omega)
      injection he2 with he2
      injection he2 with hg2 ho2 _
      subst hg2 ho2
      obtain⟨e,hx⟩:∃ x,E.names[j]?=some x:=⟨_,List.getElem?_eq_getElem (by rw [HLen.out];exact hlt)⟩
      have c1:=(hc j e hx).p
      obtain⟨X,hX,hXd⟩:=txt_of e.path
      rw [hX] at c1
      have hep:=HVE.out.names.path e (List.mem_of_getElem? hx)
      obtain⟨U,hU,hUc⟩:=rparent_txt X e.path hXd (by have:=((path_iff e.path).1 hep).1;omega)
      have HUc:=Lib.hid hUc
      have hpar:NP.parentL e.path=NP.upL e.path:=by unfold NP.parentL;rw [if_pos hep]
      have HX:=Lib.hid hx
      by_cases he:NP.upL e.path=p
      ·have hb:(U.toList==P.toList)=true:=by rw [Lib.toList_data,Lib.toList_data,hU,hpar,HPd.out,he];simp
       have hch:1<(inE E.names p).length:=by
        obtain⟨h3,h4⟩:=up_in hep (path_ne hpb) he
        rcases HVE.out.kind (path_ne hpb) with ⟨h5,_⟩|⟨d,hd,hdp,_⟩
        ·exact absurd h5 HK0.out
        ·exact two_in (List.mem_filter.2 ⟨List.mem_of_getElem? hx,h3⟩) (List.mem_filter.2 ⟨hd,by rw [hdp];exact within_self hpb⟩) (fun e2=>h4 (by rw [e2];exact hdp))
       have HZ2:Hid (Z=(E,72)):=Lib.hid (by rw [HZ.out];simp [removeE,refuse,firstE,whenE,hpb,HK0.out,hch])
       have hb0:=(Below.refl w3.heap.size w3)
       clear hc hx hX hXd hU hUc hpar he hch hep hLr hlt hpb
       repeat (first|(go_at_call 89;refine (HUc.out _).mono ?_;rintro r w4 ⟨rfl,hb4⟩;simp only [];have B4:=Lib.hid (Below.trans HB.out (hb4.mono HB.out.size));clear hb4)|go_skip|go_guarded|go_step|go_upon)
       go_ret
       rw [HZ2.out]
       exact⟨rfl,HGo.out _ _ ((RAft.same ⟨x1,HX1.out⟩).later (Below.trans B3.out (B4.out.mono B3.out.size)))⟩
      ·have hb:(U.toList==P.toList)=false:=by rw [Lib.toList_data,Lib.toList_data,hU,hpar,HPd.out];simpa using he
       have HNo2:Hid (∀ (a:Nat) (e:Nd),a<j+1->E.names[a]?=some e->NP.upL e.path≠p):=Lib.hid (fun a e' ha hae=>by
        by_cases h:a<j
        ·exact HNo.out a e' h hae
        ·have:a=j:=by omega
         subst this
         rw [hx] at hae
         injection hae with hae
         rw [<- hae]
         exact he)
       clear hc hx hX hXd hU hUc hpar he hep hLr hlt
       repeat (first|(go_at_call 89;refine (HUc.out _).mono ?_;rintro r w4 ⟨rfl,hb4⟩;simp only [];have B4:=Lib.hid (Below.trans HB.out (hb4.mono HB.out.size));clear hb4)|go_skip|go_guarded|go_step|go_upon)
       exact⟨⟨j+1,by go_num,by omega,HNo2.out,B4.out⟩,by simp [Go.RowKit.intOf];omega⟩
     ·have hjz:¬ (j:Int)<n:=by omega
      have hal:¬ 1<(inE E.names p).length:=fun h1=>by
       obtain⟨e,he,hu⟩:=HVE.out.child hpb h1
       obtain⟨a,ha,hae⟩:=List.getElem_of_mem he
       exact HNo.out a e (by have:=HLen.out;omega) (by rw [List.getElem?_eq_getElem ha,hae]) hu
      have HZ2:Hid (Z=(changeD E [en p 0],0)):=Lib.hid (by rw [HZ.out];simp [removeE,refuse,firstE,whenE,hpb,HK0.out,hal])
      have B5:Hid (Below w1.heap.size w1 wr):=Lib.hid (Below.trans B3.out (HB.out.mono B3.out.size))
      have CW:=Lib.hid (kwithout_any w wr T1 Q (m+1) E p ⟨x1,HX1.out.below B5.out⟩ (by have:=HLen.out;omega))
      rw [HP.out] at CW
      clear hal hLr hlt hpb
      repeat (first|(go_at_call 139;fail)|go_skip|go_guarded|go_step|go_upon)
      refine CW.out.mono ?_
      rintro r w6 ⟨v6,rfl,ho6,hb6⟩
      simp only []
      obtain⟨a6,c6,rfl,hL6⟩:=layR_own (T:=fun _=>True) ho6 (fun _ _=>trivial)
      have B6:=Lib.hid (Below.trans B5.out (hb6.mono B5.out.size))
      have hl6:(delE E.names p).length<=1000:=Nat.le_trans (List.length_filter_le _ _) HVE.out.names.len
      have hch:=chgR_less (D:=E) (p:=p) HVE.out.names.sorted
      have CC:=kchanged_any w w6 T1 Q (m+1) (m+1) E (delE E.names p) a6 c6 ⟨x1,HX1.out.below B6.out⟩ (fun _=>True) hL6 (by omega) (fun e he=>by
       have h1:=HVE.out.names.path e (mem_del.1 he).1
       have:=((path_iff e.path).1 h1).1
       omega) hm (by rw [hch];exact HN.out.change _)
      rw [hch] at CC
      have HCC:=Lib.hid CC
      obtain⟨n6,hn6⟩:∃ n,(delE E.names p).length=n:=⟨_,rfl⟩
      rw [hn6] at HCC ⊢
      clear hL6 ho6 hb6 CC hch hl6 hn6
      repeat (first|(go_at_call 138;refine HCC.out.mono ?_;rintro r w7 ⟨rfl,ha7⟩;simp only [];have HA7:=Lib.hid ha7;clear ha7)|go_skip|go_guarded|go_step|go_upon)
      go_ret
      rw [HZ2.out]
      exact⟨rfl,HGo.out _ _ (RAft.under B6.out HA7.out)⟩
 ·have HZ:=Lib.hid (HW1.out h0)
  have hez:(er != 0)=true:=by simpa using h0
  have hez2:(er==0)=false:=by simpa using h0
  clear hx1 h0 hfb HW1 HW2
  repeat (first|go_skip|go_guarded|go_step|go_upon)
  go_ret
  rw [HZ.out]
  exact⟨rfl,HGo.out _ _ (RAft.same ⟨x1,HX1.out⟩)⟩
end RK
end Go.Proofs.YtmohjalanhnhbaaGreatDoor
end
