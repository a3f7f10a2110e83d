import Derived.Test.YtkmcjededpamnaaGreatDoorMg21
import Derived.Test.YtkmcjededpamnaaGreatDoorMg3
import Derived.Test.YtkmcjededpamnaaGreatDoorMg9
set_option linter.all false
set_option maxRecDepth 100000
set_option maxHeartbeats 0
namespace Go.Proofs.YtkmcjededpamnaaGreatDoor
open List(set_cons_zero set_cons_succ setIfInBounds_toArray drop_succ_cons drop_zero filterMap_cons filterMap_nil)
section
open Go.RowKit Go.Lib Go.BigFrame
namespace RK
open OM TP TM DP DM FP DG TG TR
structure FoundAt(W:World)(Q:Nat)(E:Dk)(p:List UInt8)(k q:Nat)(i:Ino)(n ni g o cn gi ci:Nat):Prop where
 n0:W.cell? ⟨Q,0,none⟩=some (.slice (some ⟨g,o,none⟩) n cn)
 n3:W.cell? ⟨Q,3,none⟩=some (.slice (some ⟨gi,0,none⟩) ni ci)
 kn:(k:Int)<n
 kl:(k:Int)<=1000
 ent:W.cell? ⟨g,o+k*2+1,none⟩=some (.int .i64 ((q+1:Nat):Int))
 nam:W.cell? ⟨g,o+k*2,none⟩=some (txt p)
 qn:(q:Int)<ni
 qm:(q:Int)<9223372036854775807
 c0:W.cell? ⟨gi,q*5,none⟩=some (.int .i64 i.kind)
 c1:W.cell? ⟨gi,q*5+1,none⟩=some (.int .i64 i.mode)
 c2:W.cell? ⟨gi,q*5+2,none⟩=some (.int .i64 i.time)
 c3:W.cell? ⟨gi,q*5+3,none⟩=some (txt i.data)
 c4:W.cell? ⟨gi,q*5+4,none⟩=some (.bool i.dirty)
 fnd:findN E.names p=some (en p ((q+1:Nat):Int))
 ino:inoOf E.inos ((q+1:Nat):Int)=i
 ok:okI i
 knd:kindD E p=i.kind
 inN:inoN E.names p=((q+1:Nat):Int)
 len:E.inos.length=ni
 lt:Q<W.heap.size/\g<W.heap.size/\gi<W.heap.size
theorem found_at{w W:World}{T:Nat->Prop}{Q m:Nat}{E:Dk}{x:RP}(hx:RX w T W Q m E x)(hv:V E){p:List UInt8}(hp:p≠[]){z:Int}(hs:FindSays E.names p z) :
  (z=-1/\kindD E p=0/\findN E.names p=none)\/∃(k q:Nat) (i:Ino) (n ni g o cn gi ci:Nat),z=k/\FoundAt W Q E p k q i n ni g o cn gi ci:=by
 rcases find_says hs with ⟨k,e,rfl,ag,ao⟩|⟨rfl,ao⟩
 ·right;have a5:=List.mem_of_getElem? ag;have bt:e.path=p:=(find_mem ao).2;have hr:=hx.row;unfold rdC at hr;obtain⟨r0,-,-,r3,-⟩:=row10 hr;have bn:=(List.getElem?_eq_some_iff.1 ag).1;obtain⟨g,o,hg,bL,_,_,hc⟩:=hx.names (by omega);obtain⟨d1,d2⟩:=hc k e ag;obtain⟨q,hq,bh⟩:=ino_get hv.fit a5;have bP:=(List.getElem?_eq_some_iff.1 bh).1;obtain⟨gi,ci,b0,b8,f0,f1,f2,f3,f4⟩:=inos_at hx.inos bh;have b9:=owns_len hx.inos;unfold maxLen at b9;rw[hg]at r0;rw[b0]at r3;rw[hq]at d2;have bT:=hv.names.len
  have bx:e=en p ((q+1:Nat):Int):=by
   rw[<- hq,← bt];obtain⟨j,h1,_,_⟩:=hv.names.ino e a5;rw[h1];rfl
  refine⟨k,q,inoOf E.inos e.kind,E.names.length,E.inos.length,g,o,x.cn,gi,ci,rfl,⟨r0,r3,by omega,by omega,d2,by rw[<- bt];exact d1,by omega,by omega,f0,f1,f2,f3,f4,?_,by rw[hq],hv.names.okI hv.ino a5,?_,?_,rfl,(Array.getElem?_eq_some_iff.1 hr).1,bL,b8⟩⟩
  ·rw[ao,← bx]
  ·unfold kindD kindN;rw[if_neg hp,ao]
  ·unfold inoN;rw[ao];exact hq
 ·exact .inl ⟨rfl,by unfold kindD kindN;rw[if_neg hp,ao],ao⟩
theorem FoundAt.set{W:World}{Q:Nat}{E:Dk}{p:List UInt8}{k q:Nat}{i:Ino}{n ni g o cn gi ci:Nat}(h:FoundAt W Q E p k q i n ni g o cn gi ci)(f:Ino->Ino):setI E p f={ E with inos:=E.inos.set ((q+1)-1) (f i) }:=by
 unfold DP.setI;rw[h.fnd];show({ E with inos:=E.inos.set ((((q+1:Nat):Int)).toNat-1) (f (inoOf E.inos ((q+1:Nat):Int))) }:Dk)=_;rw[h.ino,show(((q+1:Nat):Int)).toNat-1=q+1-1 by omega]
theorem FoundAt.below{W W':World}{Q:Nat}{E:Dk}{p:List UInt8}{k q:Nat}{i:Ino}{n ni g o cn gi ci:Nat}(h:FoundAt W Q E p k q i n ni g o cn gi ci)(hb:Below W.heap.size W W'):FoundAt W' Q E p k q i n ni g o cn gi ci:=by
 obtain⟨l1,l2,l3⟩:=h.lt;have hz:=hb.size
 exact { h with
  n0:=(hb.cell (p:=⟨Q,0,none⟩) l1).trans h.n0
  n3:=(hb.cell (p:=⟨Q,3,none⟩) l1).trans h.n3
  ent:=(hb.cell (p:=⟨g,o+k*2+1,none⟩) l2).trans h.ent
  nam:=(hb.cell (p:=⟨g,o+k*2,none⟩) l2).trans h.nam
  c0:=(hb.cell (p:=⟨gi,q*5,none⟩) l3).trans h.c0
  c1:=(hb.cell (p:=⟨gi,q*5+1,none⟩) l3).trans h.c1
  c2:=(hb.cell (p:=⟨gi,q*5+2,none⟩) l3).trans h.c2
  c3:=(hb.cell (p:=⟨gi,q*5+3,none⟩) l3).trans h.c3
  c4:=(hb.cell (p:=⟨gi,q*5+4,none⟩) l3).trans h.c4
  lt:=⟨by omega,by omega,by omega⟩ }
theorem rpath_txt(S:ByteArray)(p:List UInt8)(hd:S.data.toList=p)(hp:p.length<=1048576)(W:World):Calls Tryz.prog 86 #[.string S] W fun r W'=>r=.returned (.bool (NP.pathL p))/\Below W.heap.size W W':=by
 subst hd;exact R1.RQ.rpath_any S W (by rw[size_eq];exact hp)
theorem rparent_txt(S:ByteArray)(p:List UInt8)(hd:S.data.toList=p)(hp:p.length<=1048576):∃ U:ByteArray,U.data.toList=NP.parentL p/\∀ W:World,Calls Tryz.prog 89 #[.string S] W fun r W'=>r=.returned (.string U)/\Below W.heap.size W W':=by
 subst hd;obtain⟨U,hU⟩:∃ U:ByteArray,U.data.toList=NP.parentL S.data.toList:=⟨⟨(NP.parentL S.data.toList).toArray⟩,by simp⟩;refine⟨U,hU,fun W=>(R1.RT.rparent_any S W (by rw[size_eq];exact hp)).mono ?_⟩;rintro r W' ⟨t,rfl,ht,hb⟩
 have:t=U:=by
  obtain⟨t⟩:=t;obtain⟨u⟩:=U;simp only at ht hU;rw[<- hU]at ht;rw[Array.toList_inj.1 ht]
 rw[this];exact⟨rfl,hb⟩
end RK
end
section
open Go.RowKit Go.Lib Go.BigFrame
namespace RK
open OM TP TM DP DM FP DG TG TR
theorem kflush_any(w W:World)(T:Nat->Prop)(Q m:Nat)(D:Dk)(h:RS w W T Q m D)(hv:V D)(hm:m+1<=1000) :
  Calls Tryz.prog 83 #[.pointer (some ⟨Q,0,none⟩)] W fun r W'=>r=.returned (.int .i64 (flushD D).2)/\RAft w W T Q (m+1) (flushD D).1 W':=by
 obtain⟨x,hx⟩:=h;obtain⟨E,hE⟩:∃ E,(stepD D ⟨cFlush,[],[]⟩).1=E:=⟨_,rfl⟩;obtain⟨er,aa⟩:∃ e,(stepD D ⟨cFlush,[],[]⟩).2=e:=⟨_,rfl⟩;have aj:=step_num hx.num ⟨cFlush,[],[]⟩
 have CS:Hid (Calls Tryz.prog 132 #[.pointer (some ⟨Q,0,none⟩),.string ⟨#[70,108,117,115,104]⟩,.string ⟨#[]⟩,.string ⟨#[]⟩] W fun r w'=>(∃ b,r=.returned (.tuple #[.int .i64 er,.bool b])/\(er=0->b=decide ((fateD E).what=2)))/\RAft w W T Q (m+1) E w'):=hid (by
  have:=kstep_any w W T Q m D ⟨cFlush,[],[]⟩ ⟨x,hx⟩ hv hm;unfold fullB at this;rw[hE,aa]at this;simp only at this
  exact this)
 rw[hE]at aj
 have al:Hid (er≠0->flushD D=(E,er)):=hid (fun h0=>by
  unfold flushD
  rw[after_no (by rw[aa];exact h0),← hE,← aa])
 have ak:Hid (er=0->flushD D=(settleD E,0)):=hid (fun h0=>by
  unfold flushD
  rw[after_yes (by rw[aa];exact h0),← hE])
 have HN:=hid aj;obtain⟨Z,hZ⟩:∃ Z,flushD D=Z:=⟨_,rfl⟩;rw[hZ]at al ak;rw[hZ];clear hx hv hE aa aj hZ;go_enter Tryz.func83,Tryz.ntmps83;repeat (first|go_skip|go_guarded|go_step|go_upon)
 refine CS.out.mono ?_;rintro r w1 ⟨⟨fb,rfl,aO⟩,T1,⟨x1,ag⟩,ai,ah⟩;simp only[];have a8:Hid (∀ D' W',RAft w w1 T1 Q (m+1) D' W'->RAft w W T Q (m+1) D' W'):=hid (fun D' W' hh=>RAft.chain ai ah hh);have ad:=hid ag;clear ai ah CS;by_cases h0:er=0
 ·have HZ:=hid (ak.out h0);subst h0;clear aO al ak;have aK:=ag.row;unfold rdC at aK;have bD:=hid aK;obtain⟨c0,c1,c2,-,-,-,-,-,-,-,cf⟩:=row10 aK;have bX:=(Array.getElem?_eq_some_iff.1 aK).1;clear aK ag;repeat (first|go_skip|go_guarded|go_step|go_upon)
  go_ret;rw[HZ.out];have ho:Out (fun k=>k=Q) w1 ((w1.setCell ⟨Q,1,none⟩ (.slice x1.an E.names.length x1.cn)).setCell ⟨Q,2,none⟩ (.slice none 0 0)):=out_q (out_q (Out.refl _ w1) _ _) _ _;have aY:=row_set (j:=2) (row_set (j:=1) bD.out (.slice x1.an E.names.length x1.cn)) (.slice none 0 0);have hn:Num (m+1) (settleD E):=HN.out.num.settle;refine⟨rfl,a8.out _ _ (raft_q (x:={ x1 with as_:=x1.an,cs:=x1.cn,vl:=.slice none 0 0,ls:=[] }) (ad.out.turn ho ?_ ad.out.names ad.out.names (World.ownsRow_nil _ _ _ _) rfl (fun g hg=>by cases hg) (fun j a l h1 h2=>by cases h1) ad.out.inos ad.out.iin ad.out.trace ad.out.tin ad.out.fates ad.out.edits ad.out.epath hn) ho)⟩;rw[aY];unfold rdC;rfl
 ·have HZ:=hid (al.out h0);have bp:(er != 0)=true:=by simpa using h0
  have aV:(er==0)=false:=by simpa using h0
  clear ag h0 aO al ak;repeat (first|go_skip|go_guarded|go_step|go_upon)
  go_ret;rw[HZ.out];exact⟨rfl,a8.out _ _ (RAft.same ⟨x1,ad.out⟩)⟩
end RK
end
section
open Go.RowKit Go.Lib Go.BigFrame
namespace RK
open OM TP TM DP DM FP DG TG TR
theorem ksync_any(w W:World)(T:Nat->Prop)(Q m:Nat)(D:Dk)(p:List UInt8)(h:RS w W T Q m D)(hv:V D)(hm:m+1<=1000)(hp:p.length<=1048576) :
  Calls Tryz.prog 82 #[.pointer (some ⟨Q,0,none⟩),txt p] W fun r W'=>r=.returned (.int .i64 (syncD D p).2)/\RAft w W T Q (m+1) (syncD D p).1 W':=by
 obtain⟨P,hP,aL⟩:=txt_of p;obtain⟨x,hx⟩:=h;obtain⟨E,hE⟩:∃ E,(stepD D ⟨cSync,p,[]⟩).1=E:=⟨_,rfl⟩;obtain⟨er,aa⟩:∃ e,(stepD D ⟨cSync,p,[]⟩).2=e:=⟨_,rfl⟩;have aj:=step_num hx.num ⟨cSync,p,[]⟩
 have CS:Hid (Calls Tryz.prog 132 #[.pointer (some ⟨Q,0,none⟩),.string ⟨#[83,121,110,99]⟩,.string P,.string ⟨#[]⟩] W fun r w'=>(∃ b,r=.returned (.tuple #[.int .i64 er,.bool b])/\(er=0->b=decide ((fateD E).what=2)))/\RAft w W T Q (m+1) E w'):=hid (by
  have:=kstep_any w W T Q m D ⟨cSync,p,[]⟩ ⟨x,hx⟩ hv hm;unfold fullB at this;rw[hE,aa]at this;simp only at this;rw[hP]at this
  exact this)
 rw[hE]at aj
 have al:Hid (er≠0->syncD D p=(E,er)):=hid (fun h0=>by
  unfold syncD
  rw[after_no (by rw[aa];exact h0),← hE,← aa])
 have ak:Hid (er=0->syncD D p=refuse (syncE E p) E (setI E p syncI)):=hid (fun h0=>by
  unfold syncD
  rw[after_yes (by rw[aa];exact h0),← hE])
 have aH:Hid (V E):=hid (hE ▸ hv.step ⟨cSync,p,[]⟩);have HP:=hid hP;have a9:=hid aL;have bf:=hid hp;obtain⟨Z,hZ⟩:∃ Z,syncD D p=Z:=⟨_,rfl⟩;rw[hZ]at al ak;rw[hZ,hP];clear hx hv hE aa aj hZ hP aL hp;go_enter Tryz.func82,Tryz.ntmps82;repeat (first|go_skip|go_guarded|go_step|go_upon)
 refine CS.out.mono ?_;rintro r w1 ⟨⟨fb,rfl,aO⟩,T1,⟨x1,ag⟩,ai,ah⟩;simp only[];have a8:Hid (∀ D' W',RAft w w1 T1 Q (m+1) D' W'->RAft w W T Q (m+1) D' W'):=hid (fun D' W' hh=>RAft.chain ai ah hh);have ad:=hid ag;clear ai ah CS;by_cases h0:er=0
 ·have HZ:=hid (ak.out h0);subst h0;clear aO al ak;have CP:=hid (fun V=>rpath_txt P p a9.out bf.out V);obtain⟨pb,ab⟩:∃ b,NP.pathL p=b:=⟨_,rfl⟩;rw[ab]at CP
  cases pb with
  | false =>
   have aG:Hid (Z=(E,11)):=hid (by rw[HZ.out];simp[syncE,refuse,firstE,whenE,ab]);clear ab ag;repeat (first|(go_at_call 86;refine(CP.out _).mono ?_;rintro r w2 ⟨rfl,ac⟩;simp only[];have B2:=hid ac;clear ac)|go_skip|go_guarded|go_step|go_upon)
   go_ret;rw[aG.out];exact⟨rfl,a8.out _ _ ((RAft.same ⟨x1,ad.out⟩).later B2.out)⟩
  | true =>
   repeat (first|(go_at_call 86;refine(CP.out _).mono ?_;rintro r w2 ⟨rfl,ac⟩;simp only[];have B2:=hid ac;have aR:=hid (ad.out.below ac);clear ac)|go_skip|go_guarded|go_step|go_upon)
   have CF:=kfind_any w w2 T1 Q (m+1) E p ⟨x1,aR.out⟩ aH.out.names.len;rw[HP.out]at CF;refine CF.mono ?_;rintro r w3 ⟨z,rfl,ay,au⟩;simp only[];have B3:=hid (Below.trans B2.out (au.mono B2.out.size));have aE:=hid (aR.out.below au);clear au;rcases found_at aE.out aH.out (path_ne ab) ay with ⟨rfl,ap,ao⟩|⟨k,q,i,n,ni,g,o,cn,gi,ci,rfl,hf⟩
   ·have aG:Hid (Z=(E,74)):=hid (by rw[HZ.out];simp[syncE,refuse,firstE,whenE,ab,ap]);clear ay ap ao ab ag;repeat (first|go_skip|go_guarded|go_step|go_upon)
    go_ret;rw[aG.out];exact⟨rfl,a8.out _ _ ((RAft.same ⟨x1,ad.out⟩).later B3.out)⟩
   ·have aJ:IntKind.i64.wrap (((q+1:Nat):Int)-1)=(q:Int):=by rw[IntKind.wrap_i64];have:=hf.qm;omega
    have aP:IntKind.i64.wrap (q:Int)=(q:Int):=by rw[IntKind.wrap_i64];have:=hf.qm;omega
    have aF:IntKind.i64.wrap ((q:Int)+1-1)=(q:Int):=by rw[IntKind.wrap_i64];have:=hf.qm;omega
    have aI:RowKit.wrap64 (q:Int)=(q:Int):=by unfold RowKit.wrap64;have:=hf.qm;omega
    have bw:¬((k:Int)<0):=by omega
    have aZ:decide ((k:Int)<0)=false:=by simp
    have bC:=hf.qn;have bJ:=hf.qm;have bK:=hf.kn;have bn:=hf.kl;obtain⟨ID,ar,-⟩:=txt_of i.data;obtain⟨ik,aD⟩:∃ z,i.kind=z:=⟨_,rfl⟩;obtain⟨im,a7⟩:∃ z,i.mode=z:=⟨_,rfl⟩;obtain⟨it,az⟩:∃ z,i.time=z:=⟨_,rfl⟩;obtain⟨aB,am⟩:∃ z,i.dirty=z:=⟨_,rfl⟩;have f0:=hf.n0;have f3:=hf.n3;have fe:=hf.ent;have g0:=hf.c0;have g1:=hf.c1;have g2:=hf.c2;have g3:=hf.c3;have g4:=hf.c4;rw[aD]at g0;rw[a7]at g1;rw[az]at g2;rw[ar]at g3;rw[am]at g4;obtain⟨l1,l2,l3⟩:=hf.lt
    have bj:(#[.int .i64 ik,.int .i64 im,.int .i64 it,.string ID,.bool false]:Array Value)=#[.int .i64 (syncI i).kind,.int .i64 (syncI i).mode,.int .i64 (syncI i).time,txt (syncI i).data,.bool (syncI i).dirty]:=by
     rw[<- aD,← a7,← az,← ar];rfl
    have bF:=hid bj
    have ap:kindD E p≠0:=by
     rw[hf.knd];rcases okI_kind hf.ok with h|h|h<;>omega
    have aG:Hid (Z=({ E with inos:=E.inos.set ((q+1)-1) (syncI i) },0)):=hid (by rw[HZ.out,← hf.set syncI];simp[syncE,refuse,firstE,whenE,ab,ap]);have a6:=hid hf;clear hf aD a7 az ar am ay ab ag bj ap;repeat (first|go_skip|go_guarded|go_step|go_upon)
    refine wp_region_noPanic ?_;with_reducible refine QT.region_mix (S:=fun w'=>w'.cell? ⟨Q,3,none⟩=some (.slice (some ⟨gi,0,none⟩) ni ci)/\w'.cell? ⟨Q,0,none⟩=some (.slice (some ⟨g,o,none⟩) n cn)/\w'.cell? ⟨g,o+k*2+1,none⟩=some (.int .i64 ((q+1:Nat):Int))/\w'.cell? ⟨gi,q*5,none⟩=some (.int .i64 ik)/\w'.cell? ⟨gi,q*5+1,none⟩=some (.int .i64 im)/\w'.cell? ⟨gi,q*5+2,none⟩=some (.int .i64 it)/\w'.cell? ⟨gi,q*5+3,none⟩=some (.string ID)/\w'.cell? ⟨gi,q*5+4,none⟩=some (.bool aB)) [(true,0),(true,1),(true,2),(true,3),(true,4),(true,5),(true,6),(true,7),(true,8),(true,9),(true,10),(true,11),(true,12),(true,13),(true,14),(false,15)] 16 (by kernel_rfl) (by kernel_rfl) ?_ ?_ ?_
    ·exact fun _ _ _ _ _ h=>h
    ·exact⟨f3,f0,fe,g0,g1,g2,g3,g4⟩
    intro _;simp only[QT.pickM,filterMap_cons,filterMap_nil,List.getElem?_cons_succ,List.getElem?_cons_zero,Option.map_some,drop_succ_cons,drop_zero];iterate 15 (refine QT.wpMix_take _ (by rfl) (by intro w' a4;obtain⟨y0,y1,y2,y3,y4,y5,y6,y7⟩:=a4;go_simp;first|done|rfl) ?_;try simp only[Act.put,setIfInBounds_toArray,set_cons_zero,set_cons_succ])
    intro K' hK;rw[if_pos (by rfl)];go_simp;have bA:Below w3.heap.size w3 (w3.alloc (.cells #[.int .i64 0,.int .i64 0,.int .i64 0,.string ⟨#[]⟩,.bool false] 128)).drew:=((Below.refl _ _).alloc (Nat.le_refl _) _).drew;refine hK.out _ _ ⟨(bA.cell (p:=⟨Q,3,none⟩) l1).trans f3,(bA.cell (p:=⟨Q,0,none⟩) l1).trans f0,(bA.cell (p:=⟨g,o+k*2+1,none⟩) l2).trans fe,(bA.cell (p:=⟨gi,q*5,none⟩) l3).trans g0,(bA.cell (p:=⟨gi,q*5+1,none⟩) l3).trans g1,(bA.cell (p:=⟨gi,q*5+2,none⟩) l3).trans g2,(bA.cell (p:=⟨gi,q*5+3,none⟩) l3).trans g3,(bA.cell (p:=⟨gi,q*5+4,none⟩) l3).trans g4⟩ ?_;clear hK K';refine QT.wpMix_nil ?_;try simp only[Act.put,setIfInBounds_toArray,set_cons_zero,set_cons_succ]
    clear f0 f3 fe g0 g1 g2 g3 g4;repeat (first|go_skip|go_guarded|go_step|go_upon)
    refine NoPanic.normal ?_;repeat (first|go_skip|go_guarded|go_step|go_upon)
    have b6:Below w3.heap.size w3 (w3.alloc (.cells #[.int .i64 ik,.int .i64 im,.int .i64 it,.string ID,.bool false] 128)).drew:=((Below.refl _ _).alloc (Nat.le_refl _) _).drew;have r6:(w3.alloc (.cells #[.int .i64 ik,.int .i64 im,.int .i64 it,.string ID,.bool false] 128)).drew.heap[w3.heap.size]?=some (.cells #[.int .i64 ik,.int .i64 im,.int .i64 it,.string ID,.bool false] 128 (0,0)):=heap_alloc_new w3 _;clear bA;generalize (w3.alloc (.cells #[.int .i64 ik,.int .i64 im,.int .i64 it,.string ID,.bool false] 128)).drew=w6 at b6 r6 ⊢;have aC:=a6.out.below b6;have f0:=aC.n0;have fe:=aC.ent;obtain⟨s0,s1,s2,s3,s4⟩:=row5 r6;have B6:=hid (Below.trans B3.out (b6.mono B3.out.size));have aW:=hid (aE.out.below b6);clear b6 r6 aC;refine wp_region_noPanic ?_;with_reducible refine QT.region_mix (S:=fun w'=>w'.cell? ⟨Q,0,none⟩=some (.slice (some ⟨g,o,none⟩) n cn)/\w'.cell? ⟨g,o+k*2+1,none⟩=some (.int .i64 ((q+1:Nat):Int))/\w'.cell? ⟨w3.heap.size,0,none⟩=some (.int .i64 ik)/\w'.cell? ⟨w3.heap.size,1,none⟩=some (.int .i64 im)/\w'.cell? ⟨w3.heap.size,2,none⟩=some (.int .i64 it)/\w'.cell? ⟨w3.heap.size,3,none⟩=some (.string ID)/\w'.cell? ⟨w3.heap.size,4,none⟩=some (.bool false)) [(true,0),(true,1),(true,2),(true,3),(true,4),(true,5),(true,6),(true,7),(true,8),(true,9)] 10 (by kernel_rfl) (by kernel_rfl) ?_ ?_ ?_
    ·exact fun _ _ _ _ _ h=>h
    ·exact⟨f0,fe,s0,s1,s2,s3,s4⟩
    intro _;simp only[QT.pickM,filterMap_cons,filterMap_nil,List.getElem?_cons_succ,List.getElem?_cons_zero,Option.map_some,drop_succ_cons,drop_zero];iterate 10 (refine QT.wpMix_take _ (by rfl) (by intro w' a4;obtain⟨y0,y1,y2,y3,y4,y5,y6⟩:=a4;go_simp;first|done|rfl) ?_;try simp only[Act.put,setIfInBounds_toArray,set_cons_zero,set_cons_succ])
    refine QT.wpMix_nil ?_;have aU:=kset_any w w6.drew T1 Q (m+1) E (q+1) (syncI i) ⟨x1,aW.out.below (Below.refl _ _).drew⟩ hm (by omega) (by have:=a6.out.len;have:=a6.out.qn;omega);unfold riV at aU;rw[<- bF.out]at aU;have bd:=hid aU;clear aU f0 fe s0 s1 s2 s3 s4;repeat (first|go_skip|go_guarded|go_step|go_upon)
    refine bd.out.mono ?_;rintro r w7 ⟨rfl,bm⟩;simp only[];have bB:=hid bm;clear bm;repeat (first|go_skip|go_guarded|go_step|go_upon)
    refine NoPanic.normal ?_;repeat (first|go_skip|go_guarded|go_step|go_upon)
    go_ret;rw[aG.out];exact⟨rfl,a8.out _ _ (RAft.under (Below.trans B6.out ((Below.refl _ _).drew.mono B6.out.size)) bB.out)⟩
 ·have HZ:=hid (al.out h0);have bp:(er != 0)=true:=by simpa using h0
  have aV:(er==0)=false:=by simpa using h0
  clear ag h0 aO al ak;repeat (first|go_skip|go_guarded|go_step|go_upon)
  go_ret;rw[HZ.out];exact⟨rfl,a8.out _ _ (RAft.same ⟨x1,ad.out⟩)⟩
end RK
end
section
open Go.RowKit Go.Lib Go.BigFrame
namespace RK
open OM TP TM DP DM FP DG TG TR
theorem cell_set4(w:World)(b c j:Nat)(a0 a1 a2 a3:Value)(h:c≠b):((((w.setCell ⟨b,0,none⟩ a0).setCell ⟨b,1,none⟩ a1).setCell ⟨b,2,none⟩ a2).setCell ⟨b,3,none⟩ a3).cell? ⟨c,j,none⟩=w.cell? ⟨c,j,none⟩ :=
 World.cell?_of_block (a:=⟨c,j,none⟩) ((set_other _ b 3 c a3 h).trans ((set_other _ b 2 c a2 h).trans ((set_other _ b 1 c a1 h).trans (set_other _ b 0 c a0 h))))
theorem kget_done{w W W0 w1 w8 w9:World}{T T1:Nat->Prop}{Q m:Nat}{E:Dk}(hq:Q<W.heap.size)(hT:∀ k,T k->k<W.heap.size)(hw:w.heap.size<=W.heap.size)(hb0:Below W.heap.size W W0)(bo:W.heap.size+2<=W0.heap.size)(h1:RS w w1 T1 Q m E)(ai:∀ k,T1 k->T k\/W0.heap.size<=k)(ah:Out (fun k=>T k\/k=Q) W0 w1)
  (hb8:Below w1.heap.size w1 w8) (hs9:w8.heap.size<=w9.heap.size) (ho9:Out (fun k=>k=W.heap.size\/k=W.heap.size+1) w8 w9):RAft w W T Q m E w9:=by
 have bU:=ah.size;have bS:=hb8.size;refine⟨T1,(h1.below hb8).out ho9 (fun k hk=>⟨fun h=>?_,by omega,by omega⟩),fun k hk=>(ai k hk).imp id (fun h=>by omega),?_⟩
 ·rcases ai k h with h2|h2
  ·have:=hT k h2;omega
  ·omega
 ·have u1:=(((Out.refl (fun k=>T k\/k=Q) W).thenBelow hb0).then ah (fun j _ h=>h)).thenBelow hb8;exact u1.then ho9 (fun j hj h=>by omega)
theorem kget_any(w W:World)(T:Nat->Prop)(Q m:Nat)(D:Dk)(p:List UInt8)(h:RS w W T Q m D)(hv:V D)(hm:m+1<=1000)(hp:p.length<=1048576) :
  Calls Tryz.prog 84 #[.pointer (some ⟨Q,0,none⟩),txt p] W fun r W'=>r=.returned (.tuple #[ndVal (DP.getD D p).2.1,stampVal (DP.getD D p).2.2.1,.int .i64 (DP.getD D p).2.2.2])/\RAft w W T Q (m+1) (DP.getD D p).1 W':=by
 obtain⟨P,hP,aL⟩:=txt_of p;obtain⟨E,hE⟩:∃ E,(stepD D ⟨cGet,p,[]⟩).1=E:=⟨_,rfl⟩;obtain⟨er,aa⟩:∃ e,(stepD D ⟨cGet,p,[]⟩).2=e:=⟨_,rfl⟩;have B0:Hid (Below W.heap.size W ((W.alloc (.cells #[.string ⟨#[]⟩,.int .i64 0,.string ⟨#[]⟩,.int .i64 0] 45)).alloc (.cells #[.int .i64 0,.int .i64 0,.int .i64 0] 47))):=hid (((Below.refl _ _).alloc (Nat.le_refl _) _).alloc (by simp) _);have RN:Hid (((W.alloc (.cells #[.string ⟨#[]⟩,.int .i64 0,.string ⟨#[]⟩,.int .i64 0] 45)).alloc (.cells #[.int .i64 0,.int .i64 0,.int .i64 0] 47)).heap[W.heap.size]?=some (.cells #[.string ⟨#[]⟩,.int .i64 0,.string ⟨#[]⟩,.int .i64 0] 45 (0,0))):=hid (RK.old_row (heap_alloc_new W _))
 have bl:Hid (((W.alloc (.cells #[.string ⟨#[]⟩,.int .i64 0,.string ⟨#[]⟩,.int .i64 0] 45)).alloc (.cells #[.int .i64 0,.int .i64 0,.int .i64 0] 47)).heap[W.heap.size+1]?=some (.cells #[.int .i64 0,.int .i64 0,.int .i64 0] 47 (0,0))):=hid (by
  have:=heap_alloc_new (W.alloc (.cells #[.string ⟨#[]⟩,.int .i64 0,.string ⟨#[]⟩,.int .i64 0] 45)) (.cells #[.int .i64 0,.int .i64 0,.int .i64 0] 47);rw[World.size_alloc]at this
  exact this)
 obtain⟨W0,aT⟩:∃ V,((W.alloc (.cells #[.string ⟨#[]⟩,.int .i64 0,.string ⟨#[]⟩,.int .i64 0] 45)).alloc (.cells #[.int .i64 0,.int .i64 0,.int .i64 0] 47))=V:=⟨_,rfl⟩;have bu:Hid (W.heap.size+2<=W0.heap.size):=hid (by rw[<- aT];simp);rw[aT]at B0 RN bl;have aQ:=h.lts;have bs:w.heap.size<=W.heap.size:=by obtain⟨xx,b1⟩:=h;exact b1.bel.size
 have CS:Hid (Calls Tryz.prog 132 #[.pointer (some ⟨Q,0,none⟩),.string ⟨#[71,101,116]⟩,.string P,.string ⟨#[]⟩] W0 fun r w'=>(∃ b,r=.returned (.tuple #[.int .i64 er,.bool b]))/\RAft w W0 T Q (m+1) E w'):=hid (by
  have:=kstep_any w W0 T Q m D ⟨cGet,p,[]⟩ (h.below B0.out) hv hm;unfold fullB at this;rw[hE,aa]at this;simp only at this;rw[hP]at this;refine this.mono ?_;rintro r w' ⟨⟨b,h1,_⟩,h2⟩
  exact⟨⟨b,h1⟩,h2⟩)
 have al:Hid (er≠0->DP.getD D p=(E,(nodeZ,stampZ,er))):=hid (fun hz=>by
  unfold DP.getD;rw[after_no (by rw[aa];exact hz)];simp only
  rw[if_neg (by rw[aa];exact hz),hE,aa])
 have ak:Hid (er=0->missE E p≠0->DP.getD D p=(E,(nodeZ,stampZ,missE E p))):=hid (fun hz hz2=>by
  unfold DP.getD;rw[after_yes (by rw[aa];exact hz),hE];unfold refuse;rw[if_neg hz2];simp only
  rw[if_neg hz2])
 have ba:Hid (er=0->missE E p=0->DP.getD D p=(E,(gotN E p,gotS E p,0))):=hid (fun hz hz2=>by
  unfold DP.getD;rw[after_yes (by rw[aa];exact hz),hE];unfold refuse;rw[if_pos hz2]
  simp)
 have aH:Hid (V E):=hid (hE ▸ hv.step ⟨cGet,p,[]⟩);have aq:=hid aQ;have bz:=hid bs;have HP:=hid hP;have a9:=hid aL;have bf:=hid hp;obtain⟨Z,hZ⟩:∃ Z,DP.getD D p=Z:=⟨_,rfl⟩;rw[hZ]at al ak ba;rw[hZ,hP];clear h hv hE aa hP aL hp hZ aQ bs;go_enter Tryz.func84,Tryz.ntmps84;repeat (first|go_skip|go_guarded|go_step|go_upon)
 try rw[aT]
 clear aT;refine CS.out.mono ?_;rintro r w1 ⟨⟨fb,rfl⟩,T1,aM,ai,ah⟩;simp only[];have bo:=bu.out
 have av:=hid ((ah.block W.heap.size (by omega) (fun h=>by
  rcases h with h|h
  ·have:=aq.out.2 _ h;omega
  ·have:=aq.out.1;omega)).trans RN.out)
 have aw:=hid ((ah.block (W.heap.size+1) (by omega) (fun h=>by
  rcases h with h|h
  ·have:=aq.out.2 _ h;omega
  ·have:=aq.out.1;omega)).trans bl.out)
 have aN:Hid (∀ w8 w9,Below w1.heap.size w1 w8->w8.heap.size<=w9.heap.size->Out (fun k=>k=W.heap.size\/k=W.heap.size+1) w8 w9->RAft w W T Q (m+1) E w9):=hid (fun w8 w9 h1 h2 h3=>kget_done aq.out.1 aq.out.2 bz.out B0.out bu.out aM ai ah h1 h2 h3);have bN:Hid (W.heap.size+2<=w1.heap.size):=hid (by have:=ah.size;omega);obtain⟨x1,ag⟩:=aM;have ad:=hid ag
 have bO:Hid (¬ T1 W.heap.size/\¬ T1 (W.heap.size+1)/\Q≠W.heap.size/\Q≠W.heap.size+1):=hid (by
  have h2:=aq.out.1;refine⟨fun h=>?_,fun h=>?_,by omega,by omega⟩
  ·rcases ai _ h with h1|h1
   ·have:=aq.out.2 _ h1;omega
   ·omega
  ·rcases ai _ h with h1|h1
   ·have:=aq.out.2 _ h1;omega
   ·omega)
 by_cases h0:er=0
 ·subst h0;clear ai ah ag CS bo;by_cases hpe:p=[]
  ·have HZ:=hid (ba.out rfl (by rw[hpe];rfl));have b3:P.toList.isEmpty=true:=by rw[toList_data,a9.out,hpe];rfl
   have bb:(P.toList==[])=true:=by rw[toList_data,a9.out,hpe];rfl
   have bH:=hid hpe;obtain⟨t0,t1,t2,t3,tf⟩:=row4 av.out;obtain⟨s0,s1,s2,sf⟩:=row3 aw.out;clear hpe;repeat (first|go_skip|go_guarded|go_step|go_upon)
   refine bodyPost_ret (v:=.tuple #[.agg #[.string ⟨#[]⟩,.int .i64 2,.string ⟨#[]⟩,.int .i64 0],.agg #[.int .i64 0,.int .i64 0,.int .i64 0],.int .i64 0]) ?_ rfl ⟨?_,?_⟩
   ·rw[results_cell2 rfl];go_simp
   ·rw[HZ.out,bH.out];rfl
   ·rw[HZ.out];exact aN.out _ _ (Below.refl _ _) (by simp[set_size]) (out7 _ _ _ _ _ _ _ _ _)
  ·have b3:P.toList.isEmpty=false:=by rw[toList_data,a9.out];simpa using hpe
   have bb:(P.toList==[])=false:=by rw[toList_data,a9.out];simpa using hpe
   have CP:=hid (fun V=>rpath_txt P p a9.out bf.out V);obtain⟨pb,ab⟩:∃ b,NP.pathL p=b:=⟨_,rfl⟩;rw[ab]at CP
   cases pb with
   | false =>
    have aA:missE E p=11:=by unfold missE;simp[firstE,whenE,ab,hpe]
    have HZ:=hid (ak.out rfl (by rw[aA];decide));rw[aA]at HZ;clear ab hpe aA;repeat (first|go_skip|go_guarded|go_step|go_upon)
    refine(CP.out _).mono ?_;rintro r w2 ⟨rfl,ac⟩;simp only[];have B2:=hid ac;have rn:=(ac.block _ (Array.getElem?_eq_some_iff.1 av.out).1).trans av.out;have rs:=(ac.block _ (Array.getElem?_eq_some_iff.1 aw.out).1).trans aw.out;obtain⟨t0,t1,t2,t3,tf⟩:=row4 rn;obtain⟨s0,s1,s2,sf⟩:=row3 rs;clear rn rs;clear ac;repeat (first|go_skip|go_guarded|go_step|go_upon)
    refine bodyPost_ret (v:=.tuple #[.agg #[.string ⟨#[]⟩,.int .i64 0,.string ⟨#[]⟩,.int .i64 0],.agg #[.int .i64 0,.int .i64 0,.int .i64 0],.int .i64 11]) ?_ rfl ⟨?_,?_⟩
    ·rw[results_cell2 rfl];go_simp
    ·rw[HZ.out];rfl
    ·rw[HZ.out];exact aN.out _ _ B2.out (by simp[set_size]) (out7 _ _ _ _ _ _ _ _ _)
   | true =>
    repeat (first|(go_at_call 86;refine(CP.out _).mono ?_;rintro r w2 ⟨rfl,ac⟩;simp only[];have B2:=hid ac;have aR:=hid (ad.out.below ac);clear ac)|go_skip|go_guarded|go_step|go_upon)
    have CF:=kfind_any w w2 T1 Q (m+1) E p ⟨x1,aR.out⟩ aH.out.names.len;rw[HP.out]at CF;refine CF.mono ?_;rintro r w3 ⟨z,rfl,ay,au⟩;simp only[];have B3:=hid (Below.trans B2.out (au.mono B2.out.size));have aE:=hid (aR.out.below au);clear au;rcases found_at aE.out aH.out (path_ne ab) ay with ⟨rfl,ap,ao⟩|⟨k,q,i,n,ni,g,o,cn,gi,ci,rfl,hf⟩
    ·have aA:missE E p=74:=by unfold missE;simp[firstE,whenE,ab,ap]
     have HZ:=hid (ak.out rfl (by rw[aA];decide));rw[aA]at HZ;clear ay ap ao ab aA hpe;have rn:=(B3.out.block _ (Array.getElem?_eq_some_iff.1 av.out).1).trans av.out;have rs:=(B3.out.block _ (Array.getElem?_eq_some_iff.1 aw.out).1).trans aw.out;obtain⟨t0,t1,t2,t3,tf⟩:=row4 rn;obtain⟨s0,s1,s2,sf⟩:=row3 rs;clear rn rs;repeat (first|go_skip|go_guarded|go_step|go_upon)
     refine bodyPost_ret (v:=.tuple #[.agg #[.string ⟨#[]⟩,.int .i64 0,.string ⟨#[]⟩,.int .i64 0],.agg #[.int .i64 0,.int .i64 0,.int .i64 0],.int .i64 74]) ?_ rfl ⟨?_,?_⟩
     ·rw[results_cell2 rfl];go_simp
     ·rw[HZ.out];rfl
     ·rw[HZ.out];exact aN.out _ _ B3.out (by simp[set_size]) (out7 _ _ _ _ _ _ _ _ _)
    ·have aJ:IntKind.i64.wrap (((q+1:Nat):Int)-1)=(q:Int):=by rw[IntKind.wrap_i64];have:=hf.qm;omega
     have aP:IntKind.i64.wrap (q:Int)=(q:Int):=by rw[IntKind.wrap_i64];have:=hf.qm;omega
     have aF:IntKind.i64.wrap ((q:Int)+1-1)=(q:Int):=by rw[IntKind.wrap_i64];have:=hf.qm;omega
     have aI:RowKit.wrap64 (q:Int)=(q:Int):=by unfold RowKit.wrap64;have:=hf.qm;omega
     have bw:¬((k:Int)<0):=by omega
     have aZ:decide ((k:Int)<0)=false:=by simp
     have bC:=hf.qn;have bJ:=hf.qm;have bK:=hf.kn;have bn:=hf.kl;obtain⟨ID,ar,-⟩:=txt_of i.data;obtain⟨ik,aD⟩:∃ z,i.kind=z:=⟨_,rfl⟩;obtain⟨im,a7⟩:∃ z,i.mode=z:=⟨_,rfl⟩;obtain⟨it,az⟩:∃ z,i.time=z:=⟨_,rfl⟩;obtain⟨aB,am⟩:∃ z,i.dirty=z:=⟨_,rfl⟩;have f0:=hf.n0;have f3:=hf.n3;have fe:=hf.ent;have g0:=hf.c0;have g1:=hf.c1;have g2:=hf.c2;have g3:=hf.c3;have g4:=hf.c4;rw[aD]at g0;rw[a7]at g1;rw[az]at g2;rw[ar]at g3;rw[am]at g4;obtain⟨l1,l2,l3⟩:=hf.lt
     have ap:kindD E p≠0:=by
      rw[hf.knd];rcases okI_kind hf.ok with h|h|h<;>omega
     have bk:gotN E p=⟨p,i.kind,i.data,i.mode⟩:=by
      unfold gotN;rw[if_neg (path_ne ab),hf.fnd];show({ nodeOf E.inos (en p ((q+1:Nat):Int))with path:=p }:Nd)=_;unfold nodeOf;rw[show(en p ((q+1:Nat):Int)).kind=((q+1:Nat):Int) from rfl,hf.ino]
     have bi:gotS E p=⟨((q+1:Nat):Int),i.data.length,i.time⟩:=by
      unfold gotS;rw[if_neg (path_ne ab),hf.fnd];show(⟨((q+1:Nat):Int),(inoOf E.inos ((q+1:Nat):Int)).data.length,(inoOf E.inos ((q+1:Nat):Int)).time⟩:Stamp)=_;rw[hf.ino]
     have b4:=hid bk;have bv:=hid bi;have HZ:=hid (ba.out rfl (by unfold missE;simp[firstE,whenE,ab,ap]));have bE:=hid aD;have bI:=hid a7;have b7:=hid az;have be:=hid ar
     have aX:Hid (i.data.length=ID.size):=hid (by
      have h1:txt i.data=.string ID:=ar;obtain⟨bR,h2,h3⟩:=txt_of i.data;rw[h1]at h2;injection h2 with h2
      rw[h2,size_eq,h3])
     have a6:=hid hf;clear hf aD a7 az ar am ay ab ap bk bi;repeat (first|go_skip|go_guarded|go_step|go_upon)
     refine wp_region_noPanic ?_;with_reducible refine QT.region_mix (S:=fun w'=>w'.cell? ⟨Q,3,none⟩=some (.slice (some ⟨gi,0,none⟩) ni ci)/\w'.cell? ⟨Q,0,none⟩=some (.slice (some ⟨g,o,none⟩) n cn)/\w'.cell? ⟨g,o+k*2+1,none⟩=some (.int .i64 ((q+1:Nat):Int))/\w'.cell? ⟨gi,q*5,none⟩=some (.int .i64 ik)/\w'.cell? ⟨gi,q*5+1,none⟩=some (.int .i64 im)/\w'.cell? ⟨gi,q*5+2,none⟩=some (.int .i64 it)/\w'.cell? ⟨gi,q*5+3,none⟩=some (.string ID)/\w'.cell? ⟨gi,q*5+4,none⟩=some (.bool aB)) [(true,0),(true,1),(true,2),(true,3),(true,4),(true,5),(true,6),(true,7),(true,8),(true,9),(true,10),(true,11),(true,12),(true,13),(true,14),(false,15)] 16 (by kernel_rfl) (by kernel_rfl) ?_ ?_ ?_
     ·exact fun _ _ _ _ _ h=>h
     ·exact⟨f3,f0,fe,g0,g1,g2,g3,g4⟩
     intro _;simp only[QT.pickM,filterMap_cons,filterMap_nil,List.getElem?_cons_succ,List.getElem?_cons_zero,Option.map_some,drop_succ_cons,drop_zero];iterate 15 (refine QT.wpMix_take _ (by rfl) (by intro w' a4;obtain⟨y0,y1,y2,y3,y4,y5,y6,y7⟩:=a4;go_simp;first|done|rfl) ?_;try simp only[Act.put,setIfInBounds_toArray,set_cons_zero,set_cons_succ])
     intro K' hK;rw[if_pos (by rfl)];go_simp;have bA:Below w3.heap.size w3 (w3.alloc (.cells #[.int .i64 0,.int .i64 0,.int .i64 0,.string ⟨#[]⟩,.bool false] 128)).drew:=((Below.refl _ _).alloc (Nat.le_refl _) _).drew;refine hK.out _ _ ⟨(bA.cell (p:=⟨Q,3,none⟩) l1).trans f3,(bA.cell (p:=⟨Q,0,none⟩) l1).trans f0,(bA.cell (p:=⟨g,o+k*2+1,none⟩) l2).trans fe,(bA.cell (p:=⟨gi,q*5,none⟩) l3).trans g0,(bA.cell (p:=⟨gi,q*5+1,none⟩) l3).trans g1,(bA.cell (p:=⟨gi,q*5+2,none⟩) l3).trans g2,(bA.cell (p:=⟨gi,q*5+3,none⟩) l3).trans g3,(bA.cell (p:=⟨gi,q*5+4,none⟩) l3).trans g4⟩ ?_;clear hK K';refine QT.wpMix_nil ?_;try simp only[Act.put,setIfInBounds_toArray,set_cons_zero,set_cons_succ]
     clear f0 f3 fe g0 g1 g2 g3 g4;repeat (first|go_skip|go_guarded|go_step|go_upon)
     refine NoPanic.normal ?_;repeat (first|go_skip|go_guarded|go_step|go_upon)
     have b6:Below w3.heap.size w3 (w3.alloc (.cells #[.int .i64 ik,.int .i64 im,.int .i64 it,.string ID,.bool aB] 128)).drew:=((Below.refl _ _).alloc (Nat.le_refl _) _).drew;have r6:(w3.alloc (.cells #[.int .i64 ik,.int .i64 im,.int .i64 it,.string ID,.bool aB] 128)).drew.heap[w3.heap.size]?=some (.cells #[.int .i64 ik,.int .i64 im,.int .i64 it,.string ID,.bool aB] 128 (0,0)):=heap_alloc_new w3 _;clear bA;generalize (w3.alloc (.cells #[.int .i64 ik,.int .i64 im,.int .i64 it,.string ID,.bool aB] 128)).drew=w6 at b6 r6 ⊢;have aC:=a6.out.below b6;have f0:=aC.n0;have fe:=aC.ent;obtain⟨i0,i1,i2,i3,-⟩:=row5 r6;have aS:=Below.trans B3.out (b6.mono B3.out.size);have B6:=hid aS;have bW:w3.heap.size<w6.heap.size:=(Array.getElem?_eq_some_iff.1 r6).1;have rn:=(aS.block _ (Array.getElem?_eq_some_iff.1 av.out).1).trans av.out;have rs:=(aS.block _ (Array.getElem?_eq_some_iff.1 aw.out).1).trans aw.out;obtain⟨t0,t1,t2,t3,tf⟩:=row4 rn;obtain⟨s0,s1,s2,sf⟩:=row3 rs;clear rn rs;clear b6 r6 aC aS;have au:W.heap.size+2<=w3.heap.size:=by have:=bN.out;have:=B3.out.size;omega
     have bc:T1 g:=by
      have hr:=aE.out.row;unfold rdC at hr;obtain⟨r0,-⟩:=row10 hr;rw[a6.out.n0]at r0;injection r0 with r0;injection r0 with r0 _ _;obtain⟨g',o',b5,_,bM,_,_⟩:=aE.out.names (List.length_pos_of_mem (find_mem a6.out.fnd).1);rw[b5]at r0;injection r0 with r0;injection r0 with r0 _ _;rw[r0];exact bM
     obtain⟨br,ac,bG,bQ⟩:=bO.out;have b2:g≠W.heap.size:=fun e=>br (e ▸ bc);have bV:g≠W.heap.size+1:=fun e=>ac (e ▸ bc);clear bc br ac;refine wp_region_noPanic ?_;with_reducible refine QT.region_mix (S:=fun w'=>w'.cell? ⟨Q,0,none⟩=some (.slice (some ⟨g,o,none⟩) n cn)/\w'.cell? ⟨g,o+k*2+1,none⟩=some (.int .i64 ((q+1:Nat):Int))/\w'.cell? ⟨w3.heap.size,0,none⟩=some (.int .i64 ik)/\w'.cell? ⟨w3.heap.size,1,none⟩=some (.int .i64 im)/\w'.cell? ⟨w3.heap.size,2,none⟩=some (.int .i64 it)/\w'.cell? ⟨w3.heap.size,3,none⟩=some (.string ID)) [(true,0),(true,1),(true,2),(true,3),(true,4),(true,5),(true,6),(true,7),(true,8),(true,9),(true,10),(true,11),(true,12),(true,13),(true,14),(true,15),(true,16),(true,17),(true,18),(true,19),(true,20),(true,21),(false,22)] 23 (by kernel_rfl) (by kernel_rfl) ?_ ?_ ?_
     ·exact fun _ _ _ _ _ h=>h
     ·exact⟨f0,fe,i0,i1,i2,i3⟩
     intro _;simp only[QT.pickM,filterMap_cons,filterMap_nil,List.getElem?_cons_succ,List.getElem?_cons_zero,Option.map_some,drop_succ_cons,drop_zero];iterate 22 (refine QT.wpMix_take _ (by rfl) (by intro w' a4;obtain⟨y0,y1,y2,y3,y4,y5⟩:=a4;go_simp;first|done|rfl) ?_;try simp only[Act.put,setIfInBounds_toArray,set_cons_zero,set_cons_succ])
     intro K' hK;rw[if_pos (by rfl)];have t0:w6.drew.cell? ⟨W.heap.size,0,none⟩=_:=t0;have t1:w6.drew.cell? ⟨W.heap.size,1,none⟩=_:=t1;have t2:w6.drew.cell? ⟨W.heap.size,2,none⟩=_:=t2;have t3:w6.drew.cell? ⟨W.heap.size,3,none⟩=_:=t3;have tf:∀ j,w6.drew.frozen? ⟨W.heap.size,j,none⟩=false:=tf;have s0:w6.drew.cell? ⟨W.heap.size+1,0,none⟩=_:=s0;have s1:w6.drew.cell? ⟨W.heap.size+1,1,none⟩=_:=s1;have s2:w6.drew.cell? ⟨W.heap.size+1,2,none⟩=_:=s2;have sf:∀ j,w6.drew.frozen? ⟨W.heap.size+1,j,none⟩=false:=sf;have S6:=hid (And.intro f0 (And.intro fe (And.intro i0 (And.intro i1 (And.intro i2 i3)))));have BD:Hid (Below w1.heap.size w1 w6.drew):=hid B6.out.drew;clear f0 fe i0 i1 i2 i3;have bg:w6.drew.cell? ⟨Q,0,none⟩=some (.slice (some ⟨g,o,none⟩) n cn)/\w6.drew.cell? ⟨g,o+k*2+1,none⟩=some (.int .i64 ((q+1:Nat):Int))/\w6.drew.cell? ⟨w3.heap.size,0,none⟩=some (.int .i64 ik)/\w6.drew.cell? ⟨w3.heap.size,1,none⟩=some (.int .i64 im)/\w6.drew.cell? ⟨w3.heap.size,2,none⟩=some (.int .i64 it)/\w6.drew.cell? ⟨w3.heap.size,3,none⟩=some (.string ID):=S6.out;have bq:=hid bg;clear bg S6;generalize w6.drew=w7 at t0 t1 t2 t3 tf s0 s1 s2 sf BD bq ⊢;go_simp;have ax:=fun(c j:Nat) (h:c≠W.heap.size)=>cell_set4 w7 W.heap.size c j (.string P) (.int .i64 ik) (.string ID) (.int .i64 im) h;obtain⟨v0,v1,v2,v3,v4,v5⟩:=bq.out;refine hK.out _ _ ⟨(ax Q 0 bG).trans v0,(ax g _ b2).trans v1,(ax _ 0 (by omega)).trans v2,(ax _ 1 (by omega)).trans v3,(ax _ 2 (by omega)).trans v4,(ax _ 3 (by omega)).trans v5⟩ ?_;clear hK K' ax v0 v1 v2 v3 v4 v5;refine QT.wpMix_nil ?_;try simp only[Act.put,setIfInBounds_toArray,set_cons_zero,set_cons_succ]
     repeat (first|go_skip|go_guarded|go_step|go_upon)
     refine NoPanic.normal ?_;repeat (first|go_skip|go_guarded|go_step|go_upon)
     refine bodyPost_ret (v:=.tuple #[.agg #[.string P,.int .i64 ik,.string ID,.int .i64 im],.agg #[.int .i64 ((q+1:Nat):Int),.int .i64 (ID.size:Nat),.int .i64 it],.int .i64 0]) ?_ rfl ⟨?_,?_⟩
     ·rw[results_cell2 rfl];go_simp
     ·rw[HZ.out];simp only;rw[b4.out,bv.out];unfold ndVal stampVal;simp only;rw[HP.out,be.out,bE.out,bI.out,b7.out,aX.out]
     ·rw[HZ.out];exact aN.out _ _ BD.out (by simp[set_size]) (out7 _ _ _ _ _ _ _ _ _)
 ·have HZ:=hid (al.out h0);have bp:(er != 0)=true:=by simpa using h0
  obtain⟨t0,t1,t2,t3,tf⟩:=row4 av.out;obtain⟨s0,s1,s2,sf⟩:=row3 aw.out;clear ai ah h0 ag;repeat (first|go_skip|go_guarded|go_step|go_upon)
  refine bodyPost_ret (v:=.tuple #[.agg #[.string ⟨#[]⟩,.int .i64 0,.string ⟨#[]⟩,.int .i64 0],.agg #[.int .i64 0,.int .i64 0,.int .i64 0],.int .i64 er]) ?_ rfl ⟨?_,?_⟩
  ·rw[results_cell2 rfl];go_simp
  ·rw[HZ.out];rfl
  ·rw[HZ.out];exact aN.out _ _ (Below.refl _ _) (by simp[set_size]) (out7 _ _ _ _ _ _ _ _ _)
end RK
end
end Go.Proofs.YtkmcjededpamnaaGreatDoor
