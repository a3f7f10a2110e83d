/- Texts of this seat, put one behind the other: what its statements share (part 15). -/
import Derived.Test.YtmohjalanhnhbaaGreatDoorMg3
import Derived.Test.YtmohjalanhnhbaaGreatDoorMg9
import Derived.Test.YtmohjalanhnhbaaGreatDoorRkStep
set_option linter.all false
set_option maxRecDepth 100000
set_option maxHeartbeats 25600000
section
namespace Go.Proofs.YtmohjalanhnhbaaGreatDoor
open Go.RowKit Go.Lib Go.BigFrame
namespace RK
open OM TP TM DP DM FP DG TG TR
structure FoundAt (W:World) (Q:Nat) (E:Dk) (p:List UInt8) (k q:Nat) (i:Ino) (n ni g o cn gi ci:Nat):Prop where
 n0:W.cell? ⟨Q,0,none⟩=some (.slice (some ⟨g,o,none⟩) n cn)
 n3:W.cell? ⟨Q,3,none⟩=some (.slice (some ⟨gi,0,none⟩) ni ci)
 kn:(k:Int)<n
 kl:(k:Int)<=1000
 ent:W.cell? ⟨g,o+k*2+1,none⟩=some (.int .i64 ((q+1:Nat):Int))
 nam:W.cell? ⟨g,o+k*2,none⟩=some (txt p)
 qn:(q:Int)<ni
 qm:(q:Int)<9223372036854775807
 c0:W.cell? ⟨gi,q*5,none⟩=some (.int .i64 i.kind)
 c1:W.cell? ⟨gi,q*5+1,none⟩=some (.int .i64 i.mode)
 c2:W.cell? ⟨gi,q*5+2,none⟩=some (.int .i64 i.time)
 c3:W.cell? ⟨gi,q*5+3,none⟩=some (txt i.data)
 c4:W.cell? ⟨gi,q*5+4,none⟩=some (.bool i.dirty)
 fnd:findN E.names p=some (en p ((q+1:Nat):Int))
 ino:inoOf E.inos ((q+1:Nat):Int)=i
 ok:okI i
 knd:kindD E p=i.kind
 inN:inoN E.names p=((q+1:Nat):Int)
 len:E.inos.length=ni
 lt:Q<W.heap.size/\g<W.heap.size/\gi<W.heap.size
theorem found_at {w W:World} {T:Nat->Prop} {Q m:Nat} {E:Dk} {x:RP} (hx:RX w T W Q m E x) (hv:V E) {p:List UInt8} (hp:p≠[]) {z:Int} (hs:FindSays E.names p z) :
  (z=-1/\kindD E p=0/\findN E.names p=none)∨∃ (k q:Nat) (i:Ino) (n ni g o cn gi ci:Nat),z=k/\FoundAt W Q E p k q i n ni g o cn gi ci:=by
 rcases find_says hs with ⟨k,e,rfl,hx1,hfn⟩|⟨rfl,hfn⟩
 ·right
  have hmem:=List.mem_of_getElem? hx1
  have hep:e.path=p:=(find_mem hfn).2
  have hr:=hx.row
  unfold rdC at hr
  obtain⟨r0,-,-,r3,-⟩:=row10 hr
  have hkl:=(List.getElem?_eq_some_iff.1 hx1).1
  obtain⟨g,o,hg,hlg,_,_,hc⟩:=hx.names (by omega)
  obtain⟨d1,d2⟩:=hc k e hx1
  obtain⟨q,hq,hqi⟩:=ino_get hv.fit hmem
  have hql:=(List.getElem?_eq_some_iff.1 hqi).1
  obtain⟨gi,ci,hvi,hgi,f0,f1,f2,f3,f4⟩:=inos_at hx.inos hqi
  have hmx:=owns_len hx.inos
  unfold maxLen at hmx
  rw [hg] at r0
  rw [hvi] at r3
  rw [hq] at d2
  have hn1:=hv.names.len
  have hee:e=en p ((q+1:Nat):Int):=by
   rw [<- hq,← hep]
   obtain⟨j,h1,_,_⟩:=hv.names.ino e hmem
   rw [h1]
   rfl
  refine⟨k,q,inoOf E.inos e.kind,E.names.length,E.inos.length,g,o,x.cn,gi,ci,rfl,⟨r0,r3,by omega,by omega,d2,by rw [<- hep];exact d1,by omega,by omega,f0,f1,f2,f3,f4,?_,by rw [hq],hv.names.okI hv.ino hmem,?_,?_,rfl,(Array.getElem?_eq_some_iff.1 hr).1,hlg,hgi⟩⟩
  ·rw [hfn,← hee]
  ·unfold kindD kindN
   rw [if_neg hp,hfn]
  ·unfold inoN
   rw [hfn]
   exact hq
 ·exact .inl ⟨rfl,by unfold kindD kindN;rw [if_neg hp,hfn],hfn⟩
theorem FoundAt.set {W:World} {Q:Nat} {E:Dk} {p:List UInt8} {k q:Nat} {i:Ino} {n ni g o cn gi ci:Nat} (h:FoundAt W Q E p k q i n ni g o cn gi ci) (f:Ino->Ino):setI E p f={ E with inos:=E.inos.set ((q+1)-1) (f i) }:=by
 unfold DP.setI
 rw [h.fnd]
 show ({ E with inos:=E.inos.set ((((q+1:Nat):Int)).toNat-1) (f (inoOf E.inos ((q+1:Nat):Int))) }:Dk)=_
 rw [h.ino,show (((q+1:Nat):Int)).toNat-1=q+1-1 by omega]
theorem FoundAt.below {W W':World} {Q:Nat} {E:Dk} {p:List UInt8} {k q:Nat} {i:Ino} {n ni g o cn gi ci:Nat} (h:FoundAt W Q E p k q i n ni g o cn gi ci) (hb:Below W.heap.size W W'):FoundAt W' Q E p k q i n ni g o cn gi ci:=by
 obtain⟨l1,l2,l3⟩:=h.lt
 have hz:=hb.size
 exact { h with
  n0:=(hb.cell (p:=⟨Q,0,none⟩) l1).trans h.n0
  n3:=(hb.cell (p:=⟨Q,3,none⟩) l1).trans h.n3
  ent:=(hb.cell (p:=⟨g,o+k*2+1,none⟩) l2).trans h.ent
  nam:=(hb.cell (p:=⟨g,o+k*2,none⟩) l2).trans h.nam
  c0:=(hb.cell (p:=⟨gi,q*5,none⟩) l3).trans h.c0
  c1:=(hb.cell (p:=⟨gi,q*5+1,none⟩) l3).trans h.c1
  c2:=(hb.cell (p:=⟨gi,q*5+2,none⟩) l3).trans h.c2
  c3:=(hb.cell (p:=⟨gi,q*5+3,none⟩) l3).trans h.c3
  c4:=(hb.cell (p:=⟨gi,q*5+4,none⟩) l3).trans h.c4
  lt:=⟨by omega,by omega,by omega⟩ }
theorem rpath_txt (S:ByteArray) (p:List UInt8) (hd:S.data.toList=p) (hp:p.length<=1048576) (W:World):Calls Tryz.prog 86 #[.string S] W fun r W'=>r=.returned (.bool (NP.pathL p))/\Below W.heap.size W W':=by
 subst hd
 exact R1.RQ.rpath_any S W (by rw [Lib.size_eq];exact hp)
theorem rparent_txt (S:ByteArray) (p:List UInt8) (hd:S.data.toList=p) (hp:p.length<=1048576):∃ U:ByteArray,U.data.toList=NP.parentL p/\∀ W:World,Calls Tryz.prog 89 #[.string S] W fun r W'=>r=.returned (.string U)/\Below W.heap.size W W':=by
 subst hd
 obtain⟨U,hU⟩:∃ U:ByteArray,U.data.toList=NP.parentL S.data.toList:=⟨⟨(NP.parentL S.data.toList).toArray⟩,by simp⟩
 refine⟨U,hU,fun W=>(R1.RT.rparent_any S W (by rw [Lib.size_eq];exact hp)).mono ?_⟩
 rintro r W' ⟨t,rfl,ht,hb⟩
 have:t=U:=by
  obtain⟨t⟩:=t
  obtain⟨u⟩:=U
  simp only at ht hU
  rw [<- hU] at ht
  rw [Array.toList_inj.1 ht]
 rw [this]
 exact⟨rfl,hb⟩
end RK
end Go.Proofs.YtmohjalanhnhbaaGreatDoor
end

section
namespace Go.Proofs.YtmohjalanhnhbaaGreatDoor
open Go.RowKit Go.Lib Go.BigFrame
namespace RK
open OM TP TM DP DM FP DG TG TR
theorem kflush_any (w W:World) (T:Nat->Prop) (Q m:Nat) (D:Dk) (h:RS w W T Q m D) (hv:V D) (hm:m+1<=1000) :
  Calls Tryz.prog 83 #[.pointer (some ⟨Q,0,none⟩)] W fun r W'=>r=.returned (.int .i64 (flushD D).2)/\RAft w W T Q (m+1) (flushD D).1 W':=by
 obtain⟨x,hx⟩:=h
 obtain⟨E,hE⟩:∃ E,(stepD D ⟨cFlush,[],[]⟩).1=E:=⟨_,rfl⟩
 obtain⟨er,her⟩:∃ e,(stepD D ⟨cFlush,[],[]⟩).2=e:=⟨_,rfl⟩
 have hnum:=step_num hx.num ⟨cFlush,[],[]⟩
 have CS:Hid (Calls Tryz.prog 132 #[.pointer (some ⟨Q,0,none⟩),.string ⟨#[70,108,117,115,104]⟩,.string ⟨#[]⟩,.string ⟨#[]⟩] W fun r w'=>(∃ b,r=.returned (.tuple #[.int .i64 er,.bool b])/\(er=0->b=decide ((fateD E).what=2)))/\RAft w W T Q (m+1) E w'):=Lib.hid (by
  have:=kstep_any w W T Q m D ⟨cFlush,[],[]⟩ ⟨x,hx⟩ hv hm
  unfold fullB at this
  rw [hE,her] at this
  simp only at this
  exact this)
 rw [hE] at hnum
 have HW1:Hid (er≠0->flushD D=(E,er)):=Lib.hid (fun h0=>by
  unfold flushD
  rw [after_no (by rw [her];exact h0),← hE,← her])
 have HW2:Hid (er=0->flushD D=(settleD E,0)):=Lib.hid (fun h0=>by
  unfold flushD
  rw [after_yes (by rw [her];exact h0),← hE])
 have HVE:Hid (V E):=Lib.hid (hE ▸ hv.step ⟨cFlush,[],[]⟩)
 have HN:=Lib.hid hnum
 obtain⟨Z,hZ⟩:∃ Z,flushD D=Z:=⟨_,rfl⟩
 rw [hZ] at HW1 HW2
 rw [hZ]
 clear hx hv hE her hnum hZ
 go_enter Tryz.func83,Tryz.ntmps83
 repeat (first|(go_at_call 132;fail)|go_skip|go_guarded|go_step|go_upon)
 refine CS.out.mono ?_
 rintro r w1 ⟨⟨fb,rfl,hfb⟩,T1,⟨x1,hx1⟩,hs1,ho1⟩
 simp only []
 have HGo:Hid (∀ D' W',RAft w w1 T1 Q (m+1) D' W'->RAft w W T Q (m+1) D' W'):=Lib.hid (fun D' W' hh=>RAft.chain hs1 ho1 hh)
 have HX1:=Lib.hid hx1
 clear hs1 ho1 CS
 by_cases h0:er=0
 ·have HZ:=Lib.hid (HW2.out h0)
  have HFb:=Lib.hid (hfb h0)
  subst h0
  clear hfb HW1 HW2
  have hr1:=hx1.row
  unfold rdC at hr1
  have HR1:=Lib.hid hr1
  obtain⟨c0,c1,c2,-,-,-,-,-,-,-,cf⟩:=row10 hr1
  have hl1:=(Array.getElem?_eq_some_iff.1 hr1).1
  clear hr1 hx1
  repeat (first|go_skip|go_guarded|go_step|go_upon)
  go_ret
  rw [HZ.out]
  have ho:Out (fun k=>k=Q) w1 ((w1.setCell ⟨Q,1,none⟩ (.slice x1.an E.names.length x1.cn)).setCell ⟨Q,2,none⟩ (.slice none 0 0)):=out_q (out_q (Out.refl _ w1) _ _) _ _
  have hrow:=row_set (j:=2) (row_set (j:=1) HR1.out (.slice x1.an E.names.length x1.cn)) (.slice none 0 0)
  have hn:Num (m+1) (settleD E):=HN.out.num.settle
  refine⟨rfl,HGo.out _ _ (raft_q (x:={ x1 with as_:=x1.an,cs:=x1.cn,vl:=.slice none 0 0,ls:=[] }) (HX1.out.turn ho ?_ HX1.out.names HX1.out.names (World.ownsRow_nil _ _ _ _) rfl (fun g hg=>by cases hg) (fun j a l h1 h2=>by cases h1) HX1.out.inos HX1.out.iin HX1.out.trace HX1.out.tin HX1.out.fates HX1.out.edits HX1.out.epath hn) ho)⟩
  rw [hrow]
  unfold rdC
  rfl
 ·have HZ:=Lib.hid (HW1.out h0)
  have hez:(er != 0)=true:=by simpa using h0
  have hez2:(er==0)=false:=by simpa using h0
  clear hx1 h0 hfb HW1 HW2
  repeat (first|go_skip|go_guarded|go_step|go_upon)
  go_ret
  rw [HZ.out]
  exact⟨rfl,HGo.out _ _ (RAft.same ⟨x1,HX1.out⟩)⟩
end RK
end Go.Proofs.YtmohjalanhnhbaaGreatDoor
end

section
namespace Go.Proofs.YtmohjalanhnhbaaGreatDoor
open Go.RowKit Go.Lib Go.BigFrame
namespace RK
open OM TP TM DP DM FP DG TG TR
theorem ksync_any (w W:World) (T:Nat->Prop) (Q m:Nat) (D:Dk) (p:List UInt8) (h:RS w W T Q m D) (hv:V D) (hm:m+1<=1000) (hp:p.length<=1048576) :
  Calls Tryz.prog 82 #[.pointer (some ⟨Q,0,none⟩),txt p] W fun r W'=>r=.returned (.int .i64 (syncD D p).2)/\RAft w W T Q (m+1) (syncD D p).1 W':=by
 obtain⟨P,hP,hPd⟩:=txt_of p
 obtain⟨x,hx⟩:=h
 obtain⟨E,hE⟩:∃ E,(stepD D ⟨cSync,p,[]⟩).1=E:=⟨_,rfl⟩
 obtain⟨er,her⟩:∃ e,(stepD D ⟨cSync,p,[]⟩).2=e:=⟨_,rfl⟩
 have hnum:=step_num hx.num ⟨cSync,p,[]⟩
 have CS:Hid (Calls Tryz.prog 132 #[.pointer (some ⟨Q,0,none⟩),.string ⟨#[83,121,110,99]⟩,.string P,.string ⟨#[]⟩] W fun r w'=>(∃ b,r=.returned (.tuple #[.int .i64 er,.bool b])/\(er=0->b=decide ((fateD E).what=2)))/\RAft w W T Q (m+1) E w'):=Lib.hid (by
  have:=kstep_any w W T Q m D ⟨cSync,p,[]⟩ ⟨x,hx⟩ hv hm
  unfold fullB at this
  rw [hE,her] at this
  simp only at this
  rw [hP] at this
  exact this)
 rw [hE] at hnum
 have HW1:Hid (er≠0->syncD D p=(E,er)):=Lib.hid (fun h0=>by
  unfold syncD
  rw [after_no (by rw [her];exact h0),← hE,← her])
 have HW2:Hid (er=0->syncD D p=refuse (syncE E p) E (setI E p syncI)):=Lib.hid (fun h0=>by
  unfold syncD
  rw [after_yes (by rw [her];exact h0),← hE])
 have HVE:Hid (V E):=Lib.hid (hE ▸ hv.step ⟨cSync,p,[]⟩)
 have HN:=Lib.hid hnum
 have HP:=Lib.hid hP
 have HPd:=Lib.hid hPd
 have HPP:=Lib.hid hp
 obtain⟨Z,hZ⟩:∃ Z,syncD D p=Z:=⟨_,rfl⟩
 rw [hZ] at HW1 HW2
 rw [hZ,hP]
 clear hx hv hE her hnum hZ hP hPd hp
 go_enter Tryz.func82,Tryz.ntmps82
 repeat (first|(go_at_call 132;fail)|go_skip|go_guarded|go_step|go_upon)
 refine CS.out.mono ?_
 rintro r w1 ⟨⟨fb,rfl,hfb⟩,T1,⟨x1,hx1⟩,hs1,ho1⟩
 simp only []
 have HGo:Hid (∀ D' W',RAft w w1 T1 Q (m+1) D' W'->RAft w W T Q (m+1) D' W'):=Lib.hid (fun D' W' hh=>RAft.chain hs1 ho1 hh)
 have HX1:=Lib.hid hx1
 clear hs1 ho1 CS
 by_cases h0:er=0
 ·have HZ:=Lib.hid (HW2.out h0)
  have HFb:=Lib.hid (hfb h0)
  subst h0
  clear hfb HW1 HW2
  have CP:=Lib.hid (fun V=>rpath_txt P p HPd.out HPP.out V)
  obtain⟨pb,hpb⟩:∃ b,NP.pathL p=b:=⟨_,rfl⟩
  rw [hpb] at CP
  cases pb with
  | false =>
   have HZ2:Hid (Z=(E,11)):=Lib.hid (by rw [HZ.out];simp [syncE,refuse,firstE,whenE,hpb])
   clear hpb hx1
   repeat (first|(go_at_call 86;refine (CP.out _).mono ?_;rintro r w2 ⟨rfl,hb2⟩;simp only [];have B2:=Lib.hid hb2;clear hb2)|go_skip|go_guarded|go_step|go_upon)
   go_ret
   rw [HZ2.out]
   exact⟨rfl,HGo.out _ _ ((RAft.same ⟨x1,HX1.out⟩).later B2.out)⟩
  | true =>
   repeat (first|(go_at_call 86;refine (CP.out _).mono ?_;rintro r w2 ⟨rfl,hb2⟩;simp only [];have B2:=Lib.hid hb2;have HX2:=Lib.hid (HX1.out.below hb2);clear hb2)|(go_at_call 134;fail)|go_skip|go_guarded|go_step|go_upon)
   have CF:=kfind_any w w2 T1 Q (m+1) E p ⟨x1,HX2.out⟩ HVE.out.names.len
   rw [HP.out] at CF
   refine CF.mono ?_
   rintro r w3 ⟨z,rfl,hs3,hb3⟩
   simp only []
   have B3:=Lib.hid (Below.trans B2.out (hb3.mono B2.out.size))
   have HX3:=Lib.hid (HX2.out.below hb3)
   clear hb3
   rcases found_at HX3.out HVE.out (path_ne hpb) hs3 with ⟨rfl,hk0,hfn⟩|⟨k,q,i,n,ni,g,o,cn,gi,ci,rfl,hf⟩
   ·have HZ2:Hid (Z=(E,74)):=Lib.hid (by rw [HZ.out];simp [syncE,refuse,firstE,whenE,hpb,hk0])
    clear hs3 hk0 hfn hpb hx1
    repeat (first|go_skip|go_guarded|go_step|go_upon)
    go_ret
    rw [HZ2.out]
    exact⟨rfl,HGo.out _ _ ((RAft.same ⟨x1,HX1.out⟩).later B3.out)⟩
   ·have hsub1:IntKind.i64.wrap (((q+1:Nat):Int)-1)=(q:Int):=by rw [IntKind.wrap_i64];have:=hf.qm;omega
    have hsub2:IntKind.i64.wrap (q:Int)=(q:Int):=by rw [IntKind.wrap_i64];have:=hf.qm;omega
    have hsub3:IntKind.i64.wrap ((q:Int)+1-1)=(q:Int):=by rw [IntKind.wrap_i64];have:=hf.qm;omega
    have hsub4:Go.RowKit.wrap64 (q:Int)=(q:Int):=by unfold Go.RowKit.wrap64;have:=hf.qm;omega
    have hzn:¬ ((k:Int)<0):=by omega
    have hzn2:decide ((k:Int)<0)=false:=by simp
    have hqn:=hf.qn
    have hqm:=hf.qm
    have hkn:=hf.kn
    have hkl:=hf.kl
    obtain⟨ID,hID,-⟩:=txt_of i.data
    obtain⟨ik,hik⟩:∃ z,i.kind=z:=⟨_,rfl⟩
    obtain⟨im,him⟩:∃ z,i.mode=z:=⟨_,rfl⟩
    obtain⟨it,hit⟩:∃ z,i.time=z:=⟨_,rfl⟩
    obtain⟨idt,hidt⟩:∃ z,i.dirty=z:=⟨_,rfl⟩
    have f0:=hf.n0
    have f3:=hf.n3
    have fe:=hf.ent
    have g0:=hf.c0
    have g1:=hf.c1
    have g2:=hf.c2
    have g3:=hf.c3
    have g4:=hf.c4
    rw [hik] at g0
    rw [him] at g1
    rw [hit] at g2
    rw [hID] at g3
    rw [hidt] at g4
    have HF:=Lib.hid hf
    obtain⟨l1,l2,l3⟩:=hf.lt
    have hri:(#[.int .i64 ik,.int .i64 im,.int .i64 it,.string ID,.bool false]:Array Value)=#[.int .i64 (syncI i).kind,.int .i64 (syncI i).mode,.int .i64 (syncI i).time,txt (syncI i).data,.bool (syncI i).dirty]:=by
     rw [<- hik,← him,← hit,← hID]
     rfl
    have HRi:=Lib.hid hri
    have hk0:kindD E p≠0:=by
     rw [hf.knd]
     rcases okI_kind hf.ok with h|h|h<;>omega
    have HZ2:Hid (Z=({ E with inos:=E.inos.set ((q+1)-1) (syncI i) },0)):=Lib.hid (by rw [HZ.out,← hf.set syncI];simp [syncE,refuse,firstE,whenE,hpb,hk0])
    have HF3:=Lib.hid hf
    clear hf hik him hit hID hidt hs3 hpb hx1 hri hk0
    repeat (first|go_skip|go_guarded|go_step|go_upon)
    refine wp_region_noPanic ?_
    with_reducible refine QT.region_mix (S:=fun w'=>w'.cell? ⟨Q,3,none⟩=some (.slice (some ⟨gi,0,none⟩) ni ci)/\w'.cell? ⟨Q,0,none⟩=some (.slice (some ⟨g,o,none⟩) n cn)/\w'.cell? ⟨g,o+k*2+1,none⟩=some (.int .i64 ((q+1:Nat):Int))/\w'.cell? ⟨gi,q*5,none⟩=some (.int .i64 ik)/\w'.cell? ⟨gi,q*5+1,none⟩=some (.int .i64 im)/\w'.cell? ⟨gi,q*5+2,none⟩=some (.int .i64 it)/\w'.cell? ⟨gi,q*5+3,none⟩=some (.string ID)/\w'.cell? ⟨gi,q*5+4,none⟩=some (.bool idt)) [(true,0),(true,1),(true,2),(true,3),(true,4),(true,5),(true,6),(true,7),(true,8),(true,9),(true,10),(true,11),(true,12),(true,13),(true,14),(false,15)] 16 (by kernel_rfl) (by kernel_rfl) ?_ ?_ ?_
    ·exact fun _ _ _ _ _ h=>h
    ·exact⟨f3,f0,fe,g0,g1,g2,g3,g4⟩
    intro _
    simp only [QT.pickM,List.filterMap_cons,List.filterMap_nil,List.getElem?_cons_succ,List.getElem?_cons_zero,Option.map_some,List.drop_succ_cons,List.drop_zero]
    iterate 15 (refine QT.wpMix_take _ (by rfl) (by intro w' hSw;obtain⟨y0,y1,y2,y3,y4,y5,y6,y7⟩:=hSw;go_simp;first|done|rfl) ?_;try simp only [Act.put,List.setIfInBounds_toArray,List.set_cons_zero,List.set_cons_succ])
    intro K' hK
    rw [if_pos (by rfl)]
    go_simp
    have bA:Below w3.heap.size w3 (w3.alloc (.cells #[.int .i64 0,.int .i64 0,.int .i64 0,.string ⟨#[]⟩,.bool false] 128)).drew:=((Below.refl _ _).alloc (Nat.le_refl _) _).drew
    refine hK.out _ _ ⟨(bA.cell (p:=⟨Q,3,none⟩) l1).trans f3,(bA.cell (p:=⟨Q,0,none⟩) l1).trans f0,(bA.cell (p:=⟨g,o+k*2+1,none⟩) l2).trans fe,(bA.cell (p:=⟨gi,q*5,none⟩) l3).trans g0,(bA.cell (p:=⟨gi,q*5+1,none⟩) l3).trans g1,(bA.cell (p:=⟨gi,q*5+2,none⟩) l3).trans g2,(bA.cell (p:=⟨gi,q*5+3,none⟩) l3).trans g3,(bA.cell (p:=⟨gi,q*5+4,none⟩) l3).trans g4⟩ ?_
    clear hK K'
    refine QT.wpMix_nil ?_
    try simp only [Act.put,List.setIfInBounds_toArray,List.set_cons_zero,List.set_cons_succ]
    clear f0 f3 fe g0 g1 g2 g3 g4
    repeat (first|go_skip|go_guarded|go_step|go_upon)
    refine NoPanic.normal ?_
    repeat (first|go_skip|go_guarded|go_step|go_upon)
    have b6:Below w3.heap.size w3 (w3.alloc (.cells #[.int .i64 ik,.int .i64 im,.int .i64 it,.string ID,.bool false] 128)).drew:=((Below.refl _ _).alloc (Nat.le_refl _) _).drew
    have r6:(w3.alloc (.cells #[.int .i64 ik,.int .i64 im,.int .i64 it,.string ID,.bool false] 128)).drew.heap[w3.heap.size]?=some (.cells #[.int .i64 ik,.int .i64 im,.int .i64 it,.string ID,.bool false] 128 (0,0)):=heap_alloc_new w3 _
    clear bA
    generalize (w3.alloc (.cells #[.int .i64 ik,.int .i64 im,.int .i64 it,.string ID,.bool false] 128)).drew=w6 at b6 r6 ⊢
    have HF6:=HF3.out.below b6
    have f0:=HF6.n0
    have fe:=HF6.ent
    obtain⟨s0,s1,s2,s3,s4⟩:=row5 r6
    have B6:=Lib.hid (Below.trans B3.out (b6.mono B3.out.size))
    have HXX6:=Lib.hid (HX3.out.below b6)
    clear b6 r6 HF6
    refine wp_region_noPanic ?_
    with_reducible refine QT.region_mix (S:=fun w'=>w'.cell? ⟨Q,0,none⟩=some (.slice (some ⟨g,o,none⟩) n cn)/\w'.cell? ⟨g,o+k*2+1,none⟩=some (.int .i64 ((q+1:Nat):Int))/\w'.cell? ⟨w3.heap.size,0,none⟩=some (.int .i64 ik)/\w'.cell? ⟨w3.heap.size,1,none⟩=some (.int .i64 im)/\w'.cell? ⟨w3.heap.size,2,none⟩=some (.int .i64 it)/\w'.cell? ⟨w3.heap.size,3,none⟩=some (.string ID)/\w'.cell? ⟨w3.heap.size,4,none⟩=some (.bool false)) [(true,0),(true,1),(true,2),(true,3),(true,4),(true,5),(true,6),(true,7),(true,8),(true,9)] 10 (by kernel_rfl) (by kernel_rfl) ?_ ?_ ?_
    ·exact fun _ _ _ _ _ h=>h
    ·exact⟨f0,fe,s0,s1,s2,s3,s4⟩
    intro _
    simp only [QT.pickM,List.filterMap_cons,List.filterMap_nil,List.getElem?_cons_succ,List.getElem?_cons_zero,Option.map_some,List.drop_succ_cons,List.drop_zero]
    iterate 10 (refine QT.wpMix_take _ (by rfl) (by intro w' hSw;obtain⟨y0,y1,y2,y3,y4,y5,y6⟩:=hSw;go_simp;first|done|rfl) ?_;try simp only [Act.put,List.setIfInBounds_toArray,List.set_cons_zero,List.set_cons_succ])
    refine QT.wpMix_nil ?_
    have CS2:=kset_any w w6.drew T1 Q (m+1) E (q+1) (syncI i) ⟨x1,HXX6.out.below (Below.refl _ _).drew⟩ hm (by omega) (by have:=HF3.out.len;have:=HF3.out.qn;omega)
    unfold riV at CS2
    rw [<- HRi.out] at CS2
    have HCS2:=Lib.hid CS2
    clear CS2 f0 fe s0 s1 s2 s3 s4
    repeat (first|(go_at_call 135;fail)|go_skip|go_guarded|go_step|go_upon)
    refine HCS2.out.mono ?_
    rintro r w7 ⟨rfl,ha7⟩
    simp only []
    have HA7:=Lib.hid ha7
    clear ha7
    repeat (first|go_skip|go_guarded|go_step|go_upon)
    refine NoPanic.normal ?_
    repeat (first|go_skip|go_guarded|go_step|go_upon)
    go_ret
    rw [HZ2.out]
    exact⟨rfl,HGo.out _ _ (RAft.under (Below.trans B6.out ((Below.refl _ _).drew.mono B6.out.size)) HA7.out)⟩
 ·have HZ:=Lib.hid (HW1.out h0)
  have hez:(er != 0)=true:=by simpa using h0
  have hez2:(er==0)=false:=by simpa using h0
  clear hx1 h0 hfb HW1 HW2
  repeat (first|go_skip|go_guarded|go_step|go_upon)
  go_ret
  rw [HZ.out]
  exact⟨rfl,HGo.out _ _ (RAft.same ⟨x1,HX1.out⟩)⟩
end RK
end Go.Proofs.YtmohjalanhnhbaaGreatDoor
end

section
namespace Go.Proofs.YtmohjalanhnhbaaGreatDoor
open Go.RowKit Go.Lib Go.BigFrame
namespace RK
open OM TP TM DP DM FP DG TG TR
theorem cell_set4 (w:World) (b c j:Nat) (a0 a1 a2 a3:Value) (h:c≠b):((((w.setCell ⟨b,0,none⟩ a0).setCell ⟨b,1,none⟩ a1).setCell ⟨b,2,none⟩ a2).setCell ⟨b,3,none⟩ a3).cell? ⟨c,j,none⟩=w.cell? ⟨c,j,none⟩ :=
 World.cell?_of_block (a:=⟨c,j,none⟩) ((set_other _ b 3 c a3 h).trans ((set_other _ b 2 c a2 h).trans ((set_other _ b 1 c a1 h).trans (set_other _ b 0 c a0 h))))
theorem kget_done {w W W0 w1 w8 w9:World} {T T1:Nat->Prop} {Q m:Nat} {E:Dk} (hq:Q<W.heap.size) (hT:∀ k,T k->k<W.heap.size) (hw:w.heap.size<=W.heap.size) (hb0:Below W.heap.size W W0) (hz0:W.heap.size+2<=W0.heap.size) (h1:RS w w1 T1 Q m E) (hs1:∀ k,T1 k->T k∨W0.heap.size<=k) (ho1:Out (fun k=>T k∨k=Q) W0 w1)
  (hb8:Below w1.heap.size w1 w8) (hs9:w8.heap.size<=w9.heap.size) (ho9:Out (fun k=>k=W.heap.size∨k=W.heap.size+1) w8 w9):RAft w W T Q m E w9:=by
 have hz1:=ho1.size
 have hz8:=hb8.size
 refine⟨T1,(h1.below hb8).out ho9 (fun k hk=>⟨fun h=>?_,by omega,by omega⟩),fun k hk=>(hs1 k hk).imp id (fun h=>by omega),?_⟩
 ·rcases hs1 k h with h2|h2
  ·have:=hT k h2;omega
  ·omega
 ·have u1:=(((Out.refl (fun k=>T k∨k=Q) W).thenBelow hb0).then ho1 (fun j _ h=>h)).thenBelow hb8
  exact u1.then ho9 (fun j hj h=>by omega)
theorem kget_any (w W:World) (T:Nat->Prop) (Q m:Nat) (D:Dk) (p:List UInt8) (h:RS w W T Q m D) (hv:V D) (hm:m+1<=1000) (hp:p.length<=1048576) :
  Calls Tryz.prog 84 #[.pointer (some ⟨Q,0,none⟩),txt p] W fun r W'=>r=.returned (.tuple #[ndVal (DP.getD D p).2.1,stampVal (DP.getD D p).2.2.1,.int .i64 (DP.getD D p).2.2.2])/\RAft w W T Q (m+1) (DP.getD D p).1 W':=by
 obtain⟨P,hP,hPd⟩:=txt_of p
 obtain⟨E,hE⟩:∃ E,(stepD D ⟨cGet,p,[]⟩).1=E:=⟨_,rfl⟩
 obtain⟨er,her⟩:∃ e,(stepD D ⟨cGet,p,[]⟩).2=e:=⟨_,rfl⟩
 have B0:Hid (Below W.heap.size W ((W.alloc (.cells #[.string ⟨#[]⟩,.int .i64 0,.string ⟨#[]⟩,.int .i64 0] 45)).alloc (.cells #[.int .i64 0,.int .i64 0,.int .i64 0] 47))):=Lib.hid (((Below.refl _ _).alloc (Nat.le_refl _) _).alloc (by simp) _)
 have RN:Hid (((W.alloc (.cells #[.string ⟨#[]⟩,.int .i64 0,.string ⟨#[]⟩,.int .i64 0] 45)).alloc (.cells #[.int .i64 0,.int .i64 0,.int .i64 0] 47)).heap[W.heap.size]?=some (.cells #[.string ⟨#[]⟩,.int .i64 0,.string ⟨#[]⟩,.int .i64 0] 45 (0,0))):=Lib.hid (RK.old_row (heap_alloc_new W _))
 have RS0:Hid (((W.alloc (.cells #[.string ⟨#[]⟩,.int .i64 0,.string ⟨#[]⟩,.int .i64 0] 45)).alloc (.cells #[.int .i64 0,.int .i64 0,.int .i64 0] 47)).heap[W.heap.size+1]?=some (.cells #[.int .i64 0,.int .i64 0,.int .i64 0] 47 (0,0))):=Lib.hid (by
  have:=heap_alloc_new (W.alloc (.cells #[.string ⟨#[]⟩,.int .i64 0,.string ⟨#[]⟩,.int .i64 0] 45)) (.cells #[.int .i64 0,.int .i64 0,.int .i64 0] 47)
  rw [World.size_alloc] at this
  exact this)
 obtain⟨W0,hW0⟩:∃ V,((W.alloc (.cells #[.string ⟨#[]⟩,.int .i64 0,.string ⟨#[]⟩,.int .i64 0] 45)).alloc (.cells #[.int .i64 0,.int .i64 0,.int .i64 0] 47))=V:=⟨_,rfl⟩
 have HZ0:Hid (W.heap.size+2<=W0.heap.size):=Lib.hid (by rw [<- hW0];simp)
 rw [hW0] at B0 RN RS0
 have hlts:=h.lts
 have hw0:w.heap.size<=W.heap.size:=by obtain⟨xx,hxx⟩:=h;exact hxx.bel.size
 have CS:Hid (Calls Tryz.prog 132 #[.pointer (some ⟨Q,0,none⟩),.string ⟨#[71,101,116]⟩,.string P,.string ⟨#[]⟩] W0 fun r w'=>(∃ b,r=.returned (.tuple #[.int .i64 er,.bool b]))/\RAft w W0 T Q (m+1) E w'):=Lib.hid (by
  have:=kstep_any w W0 T Q m D ⟨cGet,p,[]⟩ (h.below B0.out) hv hm
  unfold fullB at this
  rw [hE,her] at this
  simp only at this
  rw [hP] at this
  refine this.mono ?_
  rintro r w' ⟨⟨b,h1,_⟩,h2⟩
  exact⟨⟨b,h1⟩,h2⟩)
 have HW1:Hid (er≠0->DP.getD D p=(E,(nodeZ,stampZ,er))):=Lib.hid (fun hz=>by
  unfold DP.getD
  rw [after_no (by rw [her];exact hz)]
  simp only
  rw [if_neg (by rw [her];exact hz),hE,her])
 have HW2:Hid (er=0->missE E p≠0->DP.getD D p=(E,(nodeZ,stampZ,missE E p))):=Lib.hid (fun hz hz2=>by
  unfold DP.getD
  rw [after_yes (by rw [her];exact hz),hE]
  unfold refuse
  rw [if_neg hz2]
  simp only
  rw [if_neg hz2])
 have HW3:Hid (er=0->missE E p=0->DP.getD D p=(E,(gotN E p,gotS E p,0))):=Lib.hid (fun hz hz2=>by
  unfold DP.getD
  rw [after_yes (by rw [her];exact hz),hE]
  unfold refuse
  rw [if_pos hz2]
  simp)
 have HVE:Hid (V E):=Lib.hid (hE ▸ hv.step ⟨cGet,p,[]⟩)
 have HLq:=Lib.hid hlts
 have HWw:=Lib.hid hw0
 have HP:=Lib.hid hP
 have HPd:=Lib.hid hPd
 have HPP:=Lib.hid hp
 obtain⟨Z,hZ⟩:∃ Z,DP.getD D p=Z:=⟨_,rfl⟩
 rw [hZ] at HW1 HW2 HW3
 rw [hZ,hP]
 clear h hv hE her hP hPd hp hZ hlts hw0
 go_enter Tryz.func84,Tryz.ntmps84
 repeat (first|(go_at_call 132;fail)|go_skip|go_guarded|go_step|go_upon)
 try rw [hW0]
 clear hW0
 refine CS.out.mono ?_
 rintro r w1 ⟨⟨fb,rfl⟩,T1,hrs1,hs1,ho1⟩
 simp only []
 have hz0:=HZ0.out
 have RN1:=Lib.hid ((ho1.block W.heap.size (by omega) (fun h=>by
  rcases h with h|h
  ·have:=HLq.out.2 _ h;omega
  ·have:=HLq.out.1;omega)).trans RN.out)
 have RS1:=Lib.hid ((ho1.block (W.heap.size+1) (by omega) (fun h=>by
  rcases h with h|h
  ·have:=HLq.out.2 _ h;omega
  ·have:=HLq.out.1;omega)).trans RS0.out)
 have FIN:Hid (∀ w8 w9,Below w1.heap.size w1 w8->w8.heap.size<=w9.heap.size->Out (fun k=>k=W.heap.size∨k=W.heap.size+1) w8 w9->RAft w W T Q (m+1) E w9):=Lib.hid (fun w8 w9 h1 h2 h3=>kget_done HLq.out.1 HLq.out.2 HWw.out B0.out HZ0.out hrs1 hs1 ho1 h1 h2 h3)
 have HZ1:Hid (W.heap.size+2<=w1.heap.size):=Lib.hid (by have:=ho1.size;omega)
 obtain⟨x1,hx1⟩:=hrs1
 have HX1:=Lib.hid hx1
 have HTb:Hid (¬ T1 W.heap.size/\¬ T1 (W.heap.size+1)/\Q≠W.heap.size/\Q≠W.heap.size+1):=Lib.hid (by
  have h2:=HLq.out.1
  refine⟨fun h=>?_,fun h=>?_,by omega,by omega⟩
  ·rcases hs1 _ h with h1|h1
   ·have:=HLq.out.2 _ h1;omega
   ·omega
  ·rcases hs1 _ h with h1|h1
   ·have:=HLq.out.2 _ h1;omega
   ·omega)
 by_cases h0:er=0
 ·subst h0
  clear hs1 ho1 hx1 CS hz0
  by_cases hpe:p=[]
  ·have HZ:=Lib.hid (HW3.out rfl (by rw [hpe];rfl))
   have hbe:P.toList.isEmpty=true:=by rw [Lib.toList_data,HPd.out,hpe];rfl
   have hbe2:(P.toList==[])=true:=by rw [Lib.toList_data,HPd.out,hpe];rfl
   have HPe:=Lib.hid hpe
   obtain⟨t0,t1,t2,t3,tf⟩:=row4 RN1.out
   obtain⟨s0,s1,s2,sf⟩:=row3 RS1.out
   clear hpe
   repeat (first|go_skip|go_guarded|go_step|go_upon)
   refine bodyPost_ret (v:=.tuple #[.agg #[.string ⟨#[]⟩,.int .i64 2,.string ⟨#[]⟩,.int .i64 0],.agg #[.int .i64 0,.int .i64 0,.int .i64 0],.int .i64 0]) ?_ rfl ⟨?_,?_⟩
   ·rw [results_cell2 rfl]
    go_simp
   ·rw [HZ.out,HPe.out]
    rfl
   ·rw [HZ.out]
    exact FIN.out _ _ (Below.refl _ _) (by simp [set_size]) (out7 _ _ _ _ _ _ _ _ _)
  ·have hbe:P.toList.isEmpty=false:=by rw [Lib.toList_data,HPd.out];simpa using hpe
   have hbe2:(P.toList==[])=false:=by rw [Lib.toList_data,HPd.out];simpa using hpe
   have CP:=Lib.hid (fun V=>rpath_txt P p HPd.out HPP.out V)
   obtain⟨pb,hpb⟩:∃ b,NP.pathL p=b:=⟨_,rfl⟩
   rw [hpb] at CP
   cases pb with
   | false =>
    have hme:missE E p=11:=by unfold missE;simp [firstE,whenE,hpb,hpe]
    have HZ:=Lib.hid (HW2.out rfl (by rw [hme];decide))
    rw [hme] at HZ
    clear hpb hpe hme
    repeat (first|(go_at_call 86;fail)|go_skip|go_guarded|go_step|go_upon)
    refine (CP.out _).mono ?_
    rintro r w2 ⟨rfl,hb2⟩
    simp only []
    have B2:=Lib.hid hb2
    have rn:=(hb2.block _ (Array.getElem?_eq_some_iff.1 RN1.out).1).trans RN1.out
    have rs:=(hb2.block _ (Array.getElem?_eq_some_iff.1 RS1.out).1).trans RS1.out
    obtain⟨t0,t1,t2,t3,tf⟩:=row4 rn
    obtain⟨s0,s1,s2,sf⟩:=row3 rs
    clear rn rs
    clear hb2
    repeat (first|go_skip|go_guarded|go_step|go_upon)
    refine bodyPost_ret (v:=.tuple #[.agg #[.string ⟨#[]⟩,.int .i64 0,.string ⟨#[]⟩,.int .i64 0],.agg #[.int .i64 0,.int .i64 0,.int .i64 0],.int .i64 11]) ?_ rfl ⟨?_,?_⟩
    ·rw [results_cell2 rfl]
     go_simp
    ·rw [HZ.out]
     rfl
    ·rw [HZ.out]
     exact FIN.out _ _ B2.out (by simp [set_size]) (out7 _ _ _ _ _ _ _ _ _)
   | true =>
    repeat (first|(go_at_call 86;refine (CP.out _).mono ?_;rintro r w2 ⟨rfl,hb2⟩;simp only [];have B2:=Lib.hid hb2;have HX2:=Lib.hid (HX1.out.below hb2);clear hb2)|(go_at_call 134;fail)|go_skip|go_guarded|go_step|go_upon)
    have CF:=kfind_any w w2 T1 Q (m+1) E p ⟨x1,HX2.out⟩ HVE.out.names.len
    rw [HP.out] at CF
    refine CF.mono ?_
    rintro r w3 ⟨z,rfl,hs3,hb3⟩
    simp only []
    have B3:=Lib.hid (Below.trans B2.out (hb3.mono B2.out.size))
    have HX3:=Lib.hid (HX2.out.below hb3)
    clear hb3
    rcases found_at HX3.out HVE.out (path_ne hpb) hs3 with ⟨rfl,hk0,hfn⟩|⟨k,q,i,n,ni,g,o,cn,gi,ci,rfl,hf⟩
    ·have hme:missE E p=74:=by unfold missE;simp [firstE,whenE,hpb,hk0]
     have HZ:=Lib.hid (HW2.out rfl (by rw [hme];decide))
     rw [hme] at HZ
     clear hs3 hk0 hfn hpb hme hpe
     have rn:=(B3.out.block _ (Array.getElem?_eq_some_iff.1 RN1.out).1).trans RN1.out
     have rs:=(B3.out.block _ (Array.getElem?_eq_some_iff.1 RS1.out).1).trans RS1.out
     obtain⟨t0,t1,t2,t3,tf⟩:=row4 rn
     obtain⟨s0,s1,s2,sf⟩:=row3 rs
     clear rn rs
     repeat (first|go_skip|go_guarded|go_step|go_upon)
     refine bodyPost_ret (v:=.tuple #[.agg #[.string ⟨#[]⟩,.int .i64 0,.string ⟨#[]⟩,.int .i64 0],.agg #[.int .i64 0,.int .i64 0,.int .i64 0],.int .i64 74]) ?_ rfl ⟨?_,?_⟩
     ·rw [results_cell2 rfl]
      go_simp
     ·rw [HZ.out]
      rfl
     ·rw [HZ.out]
      exact FIN.out _ _ B3.out (by simp [set_size]) (out7 _ _ _ _ _ _ _ _ _)
    ·have hsub1:IntKind.i64.wrap (((q+1:Nat):Int)-1)=(q:Int):=by rw [IntKind.wrap_i64];have:=hf.qm;omega
     have hsub2:IntKind.i64.wrap (q:Int)=(q:Int):=by rw [IntKind.wrap_i64];have:=hf.qm;omega
     have hsub3:IntKind.i64.wrap ((q:Int)+1-1)=(q:Int):=by rw [IntKind.wrap_i64];have:=hf.qm;omega
     have hsub4:Go.RowKit.wrap64 (q:Int)=(q:Int):=by unfold Go.RowKit.wrap64;have:=hf.qm;omega
     have hzn:¬ ((k:Int)<0):=by omega
     have hzn2:decide ((k:Int)<0)=false:=by simp
     have hqn:=hf.qn
     have hqm:=hf.qm
     have hkn:=hf.kn
     have hkl:=hf.kl
     obtain⟨ID,hID,-⟩:=txt_of i.data
     obtain⟨ik,hik⟩:∃ z,i.kind=z:=⟨_,rfl⟩
     obtain⟨im,him⟩:∃ z,i.mode=z:=⟨_,rfl⟩
     obtain⟨it,hit⟩:∃ z,i.time=z:=⟨_,rfl⟩
     obtain⟨idt,hidt⟩:∃ z,i.dirty=z:=⟨_,rfl⟩
     have f0:=hf.n0
     have f3:=hf.n3
     have fe:=hf.ent
     have g0:=hf.c0
     have g1:=hf.c1
     have g2:=hf.c2
     have g3:=hf.c3
     have g4:=hf.c4
     rw [hik] at g0
     rw [him] at g1
     rw [hit] at g2
     rw [hID] at g3
     rw [hidt] at g4
     have HF:=Lib.hid hf
     obtain⟨l1,l2,l3⟩:=hf.lt
     have hk0:kindD E p≠0:=by
      rw [hf.knd]
      rcases okI_kind hf.ok with h|h|h<;>omega
     have hgn:gotN E p=⟨p,i.kind,i.data,i.mode⟩:=by
      unfold gotN
      rw [if_neg (path_ne hpb),hf.fnd]
      show ({ nodeOf E.inos (en p ((q+1:Nat):Int)) with path:=p }:Nd)=_
      unfold nodeOf
      rw [show (en p ((q+1:Nat):Int)).kind=((q+1:Nat):Int) from rfl,hf.ino]
     have hgs:gotS E p=⟨((q+1:Nat):Int),i.data.length,i.time⟩:=by
      unfold gotS
      rw [if_neg (path_ne hpb),hf.fnd]
      show (⟨((q+1:Nat):Int),(inoOf E.inos ((q+1:Nat):Int)).data.length,(inoOf E.inos ((q+1:Nat):Int)).time⟩:Stamp)=_
      rw [hf.ino]
     have HGn:=Lib.hid hgn
     have HGs:=Lib.hid hgs
     have HZ:=Lib.hid (HW3.out rfl (by unfold missE;simp [firstE,whenE,hpb,hk0]))
     have HIk:=Lib.hid hik
     have HIm:=Lib.hid him
     have HIt:=Lib.hid hit
     have HIDe:=Lib.hid hID
     have HIDs:Hid (i.data.length=ID.size):=Lib.hid (by
      have h1:txt i.data=.string ID:=hID
      obtain⟨ID2,h2,h3⟩:=txt_of i.data
      rw [h1] at h2
      injection h2 with h2
      rw [h2,Lib.size_eq,h3])
     have HF3:=Lib.hid hf
     clear hf hik him hit hID hidt hs3 hpb hk0 hgn hgs
     repeat (first|go_skip|go_guarded|go_step|go_upon)
     refine wp_region_noPanic ?_
     with_reducible refine QT.region_mix (S:=fun w'=>w'.cell? ⟨Q,3,none⟩=some (.slice (some ⟨gi,0,none⟩) ni ci)/\w'.cell? ⟨Q,0,none⟩=some (.slice (some ⟨g,o,none⟩) n cn)/\w'.cell? ⟨g,o+k*2+1,none⟩=some (.int .i64 ((q+1:Nat):Int))/\w'.cell? ⟨gi,q*5,none⟩=some (.int .i64 ik)/\w'.cell? ⟨gi,q*5+1,none⟩=some (.int .i64 im)/\w'.cell? ⟨gi,q*5+2,none⟩=some (.int .i64 it)/\w'.cell? ⟨gi,q*5+3,none⟩=some (.string ID)/\w'.cell? ⟨gi,q*5+4,none⟩=some (.bool idt)) [(true,0),(true,1),(true,2),(true,3),(true,4),(true,5),(true,6),(true,7),(true,8),(true,9),(true,10),(true,11),(true,12),(true,13),(true,14),(false,15)] 16 (by kernel_rfl) (by kernel_rfl) ?_ ?_ ?_
     ·exact fun _ _ _ _ _ h=>h
     ·exact⟨f3,f0,fe,g0,g1,g2,g3,g4⟩
     intro _
     simp only [QT.pickM,List.filterMap_cons,List.filterMap_nil,List.getElem?_cons_succ,List.getElem?_cons_zero,Option.map_some,List.drop_succ_cons,List.drop_zero]
     iterate 15 (refine QT.wpMix_take _ (by rfl) (by intro w' hSw;obtain⟨y0,y1,y2,y3,y4,y5,y6,y7⟩:=hSw;go_simp;first|done|rfl) ?_;try simp only [Act.put,List.setIfInBounds_toArray,List.set_cons_zero,List.set_cons_succ])
     intro K' hK
     rw [if_pos (by rfl)]
     go_simp
     have bA:Below w3.heap.size w3 (w3.alloc (.cells #[.int .i64 0,.int .i64 0,.int .i64 0,.string ⟨#[]⟩,.bool false] 128)).drew:=((Below.refl _ _).alloc (Nat.le_refl _) _).drew
     refine hK.out _ _ ⟨(bA.cell (p:=⟨Q,3,none⟩) l1).trans f3,(bA.cell (p:=⟨Q,0,none⟩) l1).trans f0,(bA.cell (p:=⟨g,o+k*2+1,none⟩) l2).trans fe,(bA.cell (p:=⟨gi,q*5,none⟩) l3).trans g0,(bA.cell (p:=⟨gi,q*5+1,none⟩) l3).trans g1,(bA.cell (p:=⟨gi,q*5+2,none⟩) l3).trans g2,(bA.cell (p:=⟨gi,q*5+3,none⟩) l3).trans g3,(bA.cell (p:=⟨gi,q*5+4,none⟩) l3).trans g4⟩ ?_
     clear hK K'
     refine QT.wpMix_nil ?_
     try simp only [Act.put,List.setIfInBounds_toArray,List.set_cons_zero,List.set_cons_succ]
     clear f0 f3 fe g0 g1 g2 g3 g4
     repeat (first|go_skip|go_guarded|go_step|go_upon)
     refine NoPanic.normal ?_
     repeat (first|go_skip|go_guarded|go_step|go_upon)
     have b6:Below w3.heap.size w3 (w3.alloc (.cells #[.int .i64 ik,.int .i64 im,.int .i64 it,.string ID,.bool idt] 128)).drew:=((Below.refl _ _).alloc (Nat.le_refl _) _).drew
     have r6:(w3.alloc (.cells #[.int .i64 ik,.int .i64 im,.int .i64 it,.string ID,.bool idt] 128)).drew.heap[w3.heap.size]?=some (.cells #[.int .i64 ik,.int .i64 im,.int .i64 it,.string ID,.bool idt] 128 (0,0)):=heap_alloc_new w3 _
     clear bA
     generalize (w3.alloc (.cells #[.int .i64 ik,.int .i64 im,.int .i64 it,.string ID,.bool idt] 128)).drew=w6 at b6 r6 ⊢
     have HF6:=HF3.out.below b6
     have f0:=HF6.n0
     have fe:=HF6.ent
     obtain⟨i0,i1,i2,i3,-⟩:=row5 r6
     have b16:=Below.trans B3.out (b6.mono B3.out.size)
     have B6:=Lib.hid b16
     have LT6:=Lib.hid HF6.lt
     have h6s:w3.heap.size<w6.heap.size:=(Array.getElem?_eq_some_iff.1 r6).1
     have rn:=(b16.block _ (Array.getElem?_eq_some_iff.1 RN1.out).1).trans RN1.out
     have rs:=(b16.block _ (Array.getElem?_eq_some_iff.1 RS1.out).1).trans RS1.out
     obtain⟨t0,t1,t2,t3,tf⟩:=row4 rn
     obtain⟨s0,s1,s2,sf⟩:=row3 rs
     clear rn rs
     clear b6 r6 HF6 b16
     have hb3:W.heap.size+2<=w3.heap.size:=by have:=HZ1.out;have:=B3.out.size;omega
     have hTg:T1 g:=by
      have hr:=HX3.out.row
      unfold rdC at hr
      obtain⟨r0,-⟩:=row10 hr
      rw [HF3.out.n0] at r0
      injection r0 with r0
      injection r0 with r0 _ _
      obtain⟨g',o',han,_,hT',_,_⟩:=HX3.out.names (List.length_pos_of_mem (find_mem HF3.out.fnd).1)
      rw [han] at r0
      injection r0 with r0
      injection r0 with r0 _ _
      rw [r0]
      exact hT'
     obtain⟨hb1,hb2,hb4,hb5⟩:=HTb.out
     have hg1:g≠W.heap.size:=fun e=>hb1 (e ▸ hTg)
     have hg2:g≠W.heap.size+1:=fun e=>hb2 (e ▸ hTg)
     clear hTg hb1 hb2
     refine wp_region_noPanic ?_
     with_reducible refine QT.region_mix (S:=fun w'=>w'.cell? ⟨Q,0,none⟩=some (.slice (some ⟨g,o,none⟩) n cn)/\w'.cell? ⟨g,o+k*2+1,none⟩=some (.int .i64 ((q+1:Nat):Int))/\w'.cell? ⟨w3.heap.size,0,none⟩=some (.int .i64 ik)/\w'.cell? ⟨w3.heap.size,1,none⟩=some (.int .i64 im)/\w'.cell? ⟨w3.heap.size,2,none⟩=some (.int .i64 it)/\w'.cell? ⟨w3.heap.size,3,none⟩=some (.string ID)) [(true,0),(true,1),(true,2),(true,3),(true,4),(true,5),(true,6),(true,7),(true,8),(true,9),(true,10),(true,11),(true,12),(true,13),(true,14),(true,15),(true,16),(true,17),(true,18),(true,19),(true,20),(true,21),(false,22)] 23 (by kernel_rfl) (by kernel_rfl) ?_ ?_ ?_
     ·exact fun _ _ _ _ _ h=>h
     ·exact⟨f0,fe,i0,i1,i2,i3⟩
     intro _
     simp only [QT.pickM,List.filterMap_cons,List.filterMap_nil,List.getElem?_cons_succ,List.getElem?_cons_zero,Option.map_some,List.drop_succ_cons,List.drop_zero]
     iterate 22 (refine QT.wpMix_take _ (by rfl) (by intro w' hSw;obtain⟨y0,y1,y2,y3,y4,y5⟩:=hSw;go_simp;first|done|rfl) ?_;try simp only [Act.put,List.setIfInBounds_toArray,List.set_cons_zero,List.set_cons_succ])
     intro K' hK
     rw [if_pos (by rfl)]
     have t0:w6.drew.cell? ⟨W.heap.size,0,none⟩=_:=t0
     have t1:w6.drew.cell? ⟨W.heap.size,1,none⟩=_:=t1
     have t2:w6.drew.cell? ⟨W.heap.size,2,none⟩=_:=t2
     have t3:w6.drew.cell? ⟨W.heap.size,3,none⟩=_:=t3
     have tf:∀ j,w6.drew.frozen? ⟨W.heap.size,j,none⟩=false:=tf
     have s0:w6.drew.cell? ⟨W.heap.size+1,0,none⟩=_:=s0
     have s1:w6.drew.cell? ⟨W.heap.size+1,1,none⟩=_:=s1
     have s2:w6.drew.cell? ⟨W.heap.size+1,2,none⟩=_:=s2
     have sf:∀ j,w6.drew.frozen? ⟨W.heap.size+1,j,none⟩=false:=sf
     have S6:=Lib.hid (And.intro f0 (And.intro fe (And.intro i0 (And.intro i1 (And.intro i2 i3)))))
     have BD:Hid (Below w1.heap.size w1 w6.drew):=Lib.hid B6.out.drew
     clear f0 fe i0 i1 i2 i3
     have hS6:w6.drew.cell? ⟨Q,0,none⟩=some (.slice (some ⟨g,o,none⟩) n cn)/\w6.drew.cell? ⟨g,o+k*2+1,none⟩=some (.int .i64 ((q+1:Nat):Int))/\w6.drew.cell? ⟨w3.heap.size,0,none⟩=some (.int .i64 ik)/\w6.drew.cell? ⟨w3.heap.size,1,none⟩=some (.int .i64 im)/\w6.drew.cell? ⟨w3.heap.size,2,none⟩=some (.int .i64 it)/\w6.drew.cell? ⟨w3.heap.size,3,none⟩=some (.string ID):=S6.out
     have HS6:=Lib.hid hS6
     clear hS6 S6
     generalize w6.drew=w7 at t0 t1 t2 t3 tf s0 s1 s2 sf BD HS6 ⊢
     go_simp
     have hs4:=fun (c j:Nat) (h:c≠W.heap.size)=>cell_set4 w7 W.heap.size c j (.string P) (.int .i64 ik) (.string ID) (.int .i64 im) h
     obtain⟨v0,v1,v2,v3,v4,v5⟩:=HS6.out
     refine hK.out _ _ ⟨(hs4 Q 0 hb4).trans v0,(hs4 g _ hg1).trans v1,(hs4 _ 0 (by omega)).trans v2,(hs4 _ 1 (by omega)).trans v3,(hs4 _ 2 (by omega)).trans v4,(hs4 _ 3 (by omega)).trans v5⟩ ?_
     clear hK K' hs4 v0 v1 v2 v3 v4 v5
     refine QT.wpMix_nil ?_
     try simp only [Act.put,List.setIfInBounds_toArray,List.set_cons_zero,List.set_cons_succ]
     repeat (first|go_skip|go_guarded|go_step|go_upon)
     refine NoPanic.normal ?_
     repeat (first|go_skip|go_guarded|go_step|go_upon)
     refine bodyPost_ret (v:=.tuple #[.agg #[.string P,.int .i64 ik,.string ID,.int .i64 im],.agg #[.int .i64 ((q+1:Nat):Int),.int .i64 (ID.size:Nat),.int .i64 it],.int .i64 0]) ?_ rfl ⟨?_,?_⟩
     ·rw [results_cell2 rfl]
      go_simp
     ·rw [HZ.out]
      simp only
      rw [HGn.out,HGs.out]
      unfold ndVal stampVal
      simp only
      rw [HP.out,HIDe.out,HIk.out,HIm.out,HIt.out,HIDs.out]
     ·rw [HZ.out]
      exact FIN.out _ _ BD.out (by simp [set_size]) (out7 _ _ _ _ _ _ _ _ _)
 ·have HZ:=Lib.hid (HW1.out h0)
  have hez:(er != 0)=true:=by simpa using h0
  obtain⟨t0,t1,t2,t3,tf⟩:=row4 RN1.out
  obtain⟨s0,s1,s2,sf⟩:=row3 RS1.out
  clear hs1 ho1 h0 hx1
  repeat (first|go_skip|go_guarded|go_step|go_upon)
  refine bodyPost_ret (v:=.tuple #[.agg #[.string ⟨#[]⟩,.int .i64 0,.string ⟨#[]⟩,.int .i64 0],.agg #[.int .i64 0,.int .i64 0,.int .i64 0],.int .i64 er]) ?_ rfl ⟨?_,?_⟩
  ·rw [results_cell2 rfl]
   go_simp
  ·rw [HZ.out]
   rfl
  ·rw [HZ.out]
   exact FIN.out _ _ (Below.refl _ _) (by simp [set_size]) (out7 _ _ _ _ _ _ _ _ _)
end RK
end Go.Proofs.YtmohjalanhnhbaaGreatDoor
end
