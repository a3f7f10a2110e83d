import Derived.Test.YtkmcjededpamnaaGreatDoorMg21
import Derived.Test.YtkmcjededpamnaaGreatDoorMg3
import Derived.Test.YtkmcjededpamnaaGreatDoorMg9
set_option linter.all false
set_option maxRecDepth 100000
set_option maxHeartbeats 0
namespace Go.Proofs.YtkmcjededpamnaaGreatDoor
open List(set_cons_zero set_cons_succ setIfInBounds_toArray drop_succ_cons drop_zero filterMap_cons filterMap_nil)
section
open Go.RowKit Go.Lib Go.BigFrame
namespace RK
open OM TP TM DP DM FP DG TG TR
structure FoundAt(W:World)(Q:Nat)(E:Dk)(p:List UInt8)(k q:Nat)(i:Ino)(n ni g o cn gi ci:Nat):Prop where
 n0:W.cell? ⟨Q,0,none⟩=some (.slice (some ⟨g,o,none⟩) n cn)
 n3:W.cell? ⟨Q,3,none⟩=some (.slice (some ⟨gi,0,none⟩) ni ci)
 kn:(k:Int)<n
 kl:(k:Int)<=1000
 ent:W.cell? ⟨g,o+k*2+1,none⟩=some (.int .i64 ((q+1:Nat):Int))
 nam:W.cell? ⟨g,o+k*2,none⟩=some (txt p)
 qn:(q:Int)<ni
 qm:(q:Int)<9223372036854775807
 c0:W.cell? ⟨gi,q*5,none⟩=some (.int .i64 i.kind)
 c1:W.cell? ⟨gi,q*5+1,none⟩=some (.int .i64 i.mode)
 c2:W.cell? ⟨gi,q*5+2,none⟩=some (.int .i64 i.time)
 c3:W.cell? ⟨gi,q*5+3,none⟩=some (txt i.data)
 c4:W.cell? ⟨gi,q*5+4,none⟩=some (.bool i.dirty)
 fnd:findN E.names p=some (en p ((q+1:Nat):Int))
 ino:inoOf E.inos ((q+1:Nat):Int)=i
 ok:okI i
 knd:kindD E p=i.kind
 inN:inoN E.names p=((q+1:Nat):Int)
 len:E.inos.length=ni
 lt:Q<W.heap.size/\g<W.heap.size/\gi<W.heap.size
theorem found_at{w W:World}{T:Nat->Prop}{Q m:Nat}{E:Dk}{x:RP}(hx:RX w T W Q m E x)(hv:V E){p:List UInt8}(hp:p≠[]){z:Int}(hs:FindSays E.names p z) :
  (z=-1/\kindD E p=0/\findN E.names p=none)\/∃(k q:Nat) (i:Ino) (n ni g o cn gi ci:Nat),z=k/\FoundAt W Q E p k q i n ni g o cn gi ci:=by
 rcases find_says hs with ⟨k,e,rfl,ad,ao⟩|⟨rfl,ao⟩
 ·right;have aC:=List.mem_of_getElem? ad;have bn:e.path=p:=(find_mem ao).2;have hr:=hx.row;unfold rdC at hr;obtain⟨r0,-,-,r3,-⟩:=row10 hr;have bh:=(List.getElem?_eq_some_iff.1 ad).1;obtain⟨g,o,hg,bw,_,_,hc⟩:=hx.names (by omega);obtain⟨d1,d2⟩:=hc k e ad;obtain⟨q,hq,bk⟩:=ino_get hv.fit aC;have bR:=(List.getElem?_eq_some_iff.1 bk).1;obtain⟨gi,ci,b1,bI,f0,f1,f2,f3,f4⟩:=inos_at hx.inos bk;have b4:=owns_len hx.inos;unfold maxLen at b4;rw[hg]at r0;rw[b1]at r3;rw[hq]at d2;have bX:=hv.names.len
  have b9:e=en p ((q+1:Nat):Int):=by
   rw[<- hq,← bn];obtain⟨j,h1,_,_⟩:=hv.names.ino e aC;rw[h1];rfl
  refine⟨k,q,inoOf E.inos e.kind,E.names.length,E.inos.length,g,o,x.cn,gi,ci,rfl,⟨r0,r3,by omega,by omega,d2,by rw[<- bn];exact d1,by omega,by omega,f0,f1,f2,f3,f4,?_,by rw[hq],hv.names.okI hv.ino aC,?_,?_,rfl,(Array.getElem?_eq_some_iff.1 hr).1,bw,bI⟩⟩
  ·rw[ao,← b9]
  ·unfold kindD kindN;rw[if_neg hp,ao]
  ·unfold inoN;rw[ao];exact hq
 ·exact .inl ⟨rfl,by unfold kindD kindN;rw[if_neg hp,ao],ao⟩
theorem FoundAt.set{W:World}{Q:Nat}{E:Dk}{p:List UInt8}{k q:Nat}{i:Ino}{n ni g o cn gi ci:Nat}(h:FoundAt W Q E p k q i n ni g o cn gi ci)(f:Ino->Ino):setI E p f={ E with inos:=E.inos.set ((q+1)-1) (f i) }:=by
 unfold DP.setI;rw[h.fnd];show({ E with inos:=E.inos.set ((((q+1:Nat):Int)).toNat-1) (f (inoOf E.inos ((q+1:Nat):Int))) }:Dk)=_;rw[h.ino,show(((q+1:Nat):Int)).toNat-1=q+1-1 by omega]
theorem FoundAt.below{W W':World}{Q:Nat}{E:Dk}{p:List UInt8}{k q:Nat}{i:Ino}{n ni g o cn gi ci:Nat}(h:FoundAt W Q E p k q i n ni g o cn gi ci)(hb:Below W.heap.size W W'):FoundAt W' Q E p k q i n ni g o cn gi ci:=by
 obtain⟨l1,l2,l3⟩:=h.lt;have hz:=hb.size
 exact { h with
  n0:=(hb.cell (p:=⟨Q,0,none⟩) l1).trans h.n0
  n3:=(hb.cell (p:=⟨Q,3,none⟩) l1).trans h.n3
  ent:=(hb.cell (p:=⟨g,o+k*2+1,none⟩) l2).trans h.ent
  nam:=(hb.cell (p:=⟨g,o+k*2,none⟩) l2).trans h.nam
  c0:=(hb.cell (p:=⟨gi,q*5,none⟩) l3).trans h.c0
  c1:=(hb.cell (p:=⟨gi,q*5+1,none⟩) l3).trans h.c1
  c2:=(hb.cell (p:=⟨gi,q*5+2,none⟩) l3).trans h.c2
  c3:=(hb.cell (p:=⟨gi,q*5+3,none⟩) l3).trans h.c3
  c4:=(hb.cell (p:=⟨gi,q*5+4,none⟩) l3).trans h.c4
  lt:=⟨by omega,by omega,by omega⟩ }
theorem rpath_txt(S:ByteArray)(p:List UInt8)(hd:S.data.toList=p)(hp:p.length<=1048576)(W:World):Calls Tryz.prog 86 #[.string S] W fun r W'=>r=.returned (.bool (NP.pathL p))/\Below W.heap.size W W':=by
 subst hd;exact R1.RQ.rpath_any S W (by rw[size_eq];exact hp)
theorem rparent_txt(S:ByteArray)(p:List UInt8)(hd:S.data.toList=p)(hp:p.length<=1048576):∃ U:ByteArray,U.data.toList=NP.parentL p/\∀ W:World,Calls Tryz.prog 89 #[.string S] W fun r W'=>r=.returned (.string U)/\Below W.heap.size W W':=by
 subst hd;obtain⟨U,hU⟩:∃ U:ByteArray,U.data.toList=NP.parentL S.data.toList:=⟨⟨(NP.parentL S.data.toList).toArray⟩,by simp⟩;refine⟨U,hU,fun W=>(R1.RT.rparent_any S W (by rw[size_eq];exact hp)).mono ?_⟩;rintro r W' ⟨t,rfl,ht,hb⟩
 have:t=U:=by
  obtain⟨t⟩:=t;obtain⟨u⟩:=U;simp only at ht hU;rw[<- hU]at ht;rw[Array.toList_inj.1 ht]
 rw[this];exact⟨rfl,hb⟩
end RK
end
section
open Go.RowKit Go.Lib Go.BigFrame
namespace RK
open OM TP TM DP DM FP DG TG TR
theorem kflush_any(w W:World)(T:Nat->Prop)(Q m:Nat)(D:Dk)(h:RS w W T Q m D)(hv:V D)(hm:m+1<=1000) :
  Calls Tryz.prog 83 #[.pointer (some ⟨Q,0,none⟩)] W fun r W'=>r=.returned (.int .i64 (flushD D).2)/\RAft w W T Q (m+1) (flushD D).1 W':=by
 obtain⟨x,hx⟩:=h;obtain⟨E,hE⟩:∃ E,(stepD D ⟨cFlush,[],[]⟩).1=E:=⟨_,rfl⟩;obtain⟨er,ab⟩:∃ e,(stepD D ⟨cFlush,[],[]⟩).2=e:=⟨_,rfl⟩;have aj:=step_num hx.num ⟨cFlush,[],[]⟩
 have CS:Hid (Calls Tryz.prog 132 #[.pointer (some ⟨Q,0,none⟩),.string ⟨#[70,108,117,115,104]⟩,.string ⟨#[]⟩,.string ⟨#[]⟩] W fun r w'=>(∃ b,r=.returned (.tuple #[.int .i64 er,.bool b])/\(er=0->b=decide ((fateD E).what=2)))/\RAft w W T Q (m+1) E w'):=hid (by
  have:=kstep_any w W T Q m D ⟨cFlush,[],[]⟩ ⟨x,hx⟩ hv hm;unfold fullB at this;rw[hE,ab]at this;simp only at this
  exact this)
 rw[hE]at aj
 have al:Hid (er≠0->flushD D=(E,er)):=hid (fun h0=>by
  unfold flushD
  rw[after_no (by rw[ab];exact h0),← hE,← ab])
 have ak:Hid (er=0->flushD D=(settleD E,0)):=hid (fun h0=>by
  unfold flushD
  rw[after_yes (by rw[ab];exact h0),← hE])
 have HN:=hid aj;obtain⟨Z,hZ⟩:∃ Z,flushD D=Z:=⟨_,rfl⟩;rw[hZ]at al ak;rw[hZ];clear hx hv hE ab aj hZ;go_enter Tryz.func83,Tryz.ntmps83;repeat (first|go_skip|go_guarded|go_step|go_upon)
 refine CS.out.mono ?_;rintro r w1 ⟨⟨fb,rfl,aJ⟩,T1,⟨x1,ad⟩,ai,ah⟩;simp only[];have aD:Hid (∀ D' W',RAft w w1 T1 Q (m+1) D' W'->RAft w W T Q (m+1) D' W'):=hid (fun D' W' hh=>RAft.chain ai ah hh);have ag:=hid ad;clear ai ah CS;by_cases h0:er=0
 ·have HZ:=hid (ak.out h0);subst h0;clear aJ al ak;have aG:=ad.row;unfold rdC at aG;have b8:=hid aG;obtain⟨c0,c1,c2,-,-,-,-,-,-,-,cf⟩:=row10 aG;have bT:=(Array.getElem?_eq_some_iff.1 aG).1;clear aG ad;repeat (first|go_skip|go_guarded|go_step|go_upon)
  go_ret;rw[HZ.out];have ho:Out (fun k=>k=Q) w1 ((w1.setCell ⟨Q,1,none⟩ (.slice x1.an E.names.length x1.cn)).setCell ⟨Q,2,none⟩ (.slice none 0 0)):=out_q (out_q (Out.refl _ w1) _ _) _ _;have be:=row_set (j:=2) (row_set (j:=1) b8.out (.slice x1.an E.names.length x1.cn)) (.slice none 0 0);have hn:Num (m+1) (settleD E):=HN.out.num.settle;refine⟨rfl,aD.out _ _ (raft_q (x:={ x1 with as_:=x1.an,cs:=x1.cn,vl:=.slice none 0 0,ls:=[] }) (ag.out.turn ho ?_ ag.out.names ag.out.names (World.ownsRow_nil _ _ _ _) rfl (fun g hg=>by cases hg) (fun j a l h1 h2=>by cases h1) ag.out.inos ag.out.iin ag.out.trace ag.out.tin ag.out.fates ag.out.edits ag.out.epath hn) ho)⟩;rw[be];unfold rdC;rfl
 ·have HZ:=hid (al.out h0);have bg:(er != 0)=true:=by simpa using h0
  have aY:(er==0)=false:=by simpa using h0
  clear ad h0 aJ al ak;repeat (first|go_skip|go_guarded|go_step|go_upon)
  go_ret;rw[HZ.out];exact⟨rfl,aD.out _ _ (RAft.same ⟨x1,ag.out⟩)⟩
end RK
end
section
open Go.RowKit Go.Lib Go.BigFrame
namespace RK
open OM TP TM DP DM FP DG TG TR
theorem ksync_any(w W:World)(T:Nat->Prop)(Q m:Nat)(D:Dk)(p:List UInt8)(h:RS w W T Q m D)(hv:V D)(hm:m+1<=1000)(hp:p.length<=1048576) :
  Calls Tryz.prog 82 #[.pointer (some ⟨Q,0,none⟩),txt p] W fun r W'=>r=.returned (.int .i64 (syncD D p).2)/\RAft w W T Q (m+1) (syncD D p).1 W':=by
 obtain⟨P,hP,aI⟩:=txt_of p;obtain⟨x,hx⟩:=h;obtain⟨E,hE⟩:∃ E,(stepD D ⟨cSync,p,[]⟩).1=E:=⟨_,rfl⟩;obtain⟨er,ab⟩:∃ e,(stepD D ⟨cSync,p,[]⟩).2=e:=⟨_,rfl⟩;have aj:=step_num hx.num ⟨cSync,p,[]⟩
 have CS:Hid (Calls Tryz.prog 132 #[.pointer (some ⟨Q,0,none⟩),.string ⟨#[83,121,110,99]⟩,.string P,.string ⟨#[]⟩] W fun r w'=>(∃ b,r=.returned (.tuple #[.int .i64 er,.bool b])/\(er=0->b=decide ((fateD E).what=2)))/\RAft w W T Q (m+1) E w'):=hid (by
  have:=kstep_any w W T Q m D ⟨cSync,p,[]⟩ ⟨x,hx⟩ hv hm;unfold fullB at this;rw[hE,ab]at this;simp only at this;rw[hP]at this
  exact this)
 rw[hE]at aj
 have al:Hid (er≠0->syncD D p=(E,er)):=hid (fun h0=>by
  unfold syncD
  rw[after_no (by rw[ab];exact h0),← hE,← ab])
 have ak:Hid (er=0->syncD D p=refuse (syncE E p) E (setI E p syncI)):=hid (fun h0=>by
  unfold syncD
  rw[after_yes (by rw[ab];exact h0),← hE])
 have aF:Hid (V E):=hid (hE ▸ hv.step ⟨cSync,p,[]⟩);have HP:=hid hP;have a4:=hid aI;have bf:=hid hp;obtain⟨Z,hZ⟩:∃ Z,syncD D p=Z:=⟨_,rfl⟩;rw[hZ]at al ak;rw[hZ,hP];clear hx hv hE ab aj hZ hP aI hp;go_enter Tryz.func82,Tryz.ntmps82;repeat (first|go_skip|go_guarded|go_step|go_upon)
 refine CS.out.mono ?_;rintro r w1 ⟨⟨fb,rfl,aJ⟩,T1,⟨x1,ad⟩,ai,ah⟩;simp only[];have aD:Hid (∀ D' W',RAft w w1 T1 Q (m+1) D' W'->RAft w W T Q (m+1) D' W'):=hid (fun D' W' hh=>RAft.chain ai ah hh);have ag:=hid ad;clear ai ah CS;by_cases h0:er=0
 ·have HZ:=hid (ak.out h0);subst h0;clear aJ al ak;have CP:=hid (fun V=>rpath_txt P p a4.out bf.out V);obtain⟨pb,aa⟩:∃ b,NP.pathL p=b:=⟨_,rfl⟩;rw[aa]at CP
  cases pb with
  | false =>
   have aR:Hid (Z=(E,11)):=hid (by rw[HZ.out];simp[syncE,refuse,firstE,whenE,aa]);clear aa ad;repeat (first|(go_at_call 86;refine(CP.out _).mono ?_;rintro r w2 ⟨rfl,ac⟩;simp only[];have B2:=hid ac;clear ac)|go_skip|go_guarded|go_step|go_upon)
   go_ret;rw[aR.out];exact⟨rfl,aD.out _ _ ((RAft.same ⟨x1,ag.out⟩).later B2.out)⟩
  | true =>
   repeat (first|(go_at_call 86;refine(CP.out _).mono ?_;rintro r w2 ⟨rfl,ac⟩;simp only[];have B2:=hid ac;have aQ:=hid (ag.out.below ac);clear ac)|go_skip|go_guarded|go_step|go_upon)
   have CF:=kfind_any w w2 T1 Q (m+1) E p ⟨x1,aQ.out⟩ aF.out.names.len;rw[HP.out]at CF;refine CF.mono ?_;rintro r w3 ⟨z,rfl,aA,ar⟩;simp only[];have B3:=hid (Below.trans B2.out (ar.mono B2.out.size));have aE:=hid (aQ.out.below ar);clear ar;rcases found_at aE.out aF.out (path_ne aa) aA with ⟨rfl,am,ao⟩|⟨k,q,i,n,ni,g,o,cn,gi,ci,rfl,hf⟩
   ·have aR:Hid (Z=(E,74)):=hid (by rw[HZ.out];simp[syncE,refuse,firstE,whenE,aa,am]);clear aA am ao aa ad;repeat (first|go_skip|go_guarded|go_step|go_upon)
    go_ret;rw[aR.out];exact⟨rfl,aD.out _ _ ((RAft.same ⟨x1,ag.out⟩).later B3.out)⟩
   ·have aL:IntKind.i64.wrap (((q+1:Nat):Int)-1)=(q:Int):=by rw[IntKind.wrap_i64];have:=hf.qm;omega
    have aO:IntKind.i64.wrap (q:Int)=(q:Int):=by rw[IntKind.wrap_i64];have:=hf.qm;omega
    have aH:IntKind.i64.wrap ((q:Int)+1-1)=(q:Int):=by rw[IntKind.wrap_i64];have:=hf.qm;omega
    have aP:RowKit.wrap64 (q:Int)=(q:Int):=by unfold RowKit.wrap64;have:=hf.qm;omega
    have bN:¬((k:Int)<0):=by omega
    have ba:decide ((k:Int)<0)=false:=by simp
    have bv:=hf.qn;have bz:=hf.qm;have b7:=hf.kn;have bh:=hf.kl;obtain⟨ID,au,-⟩:=txt_of i.data;obtain⟨ik,ax⟩:∃ z,i.kind=z:=⟨_,rfl⟩;obtain⟨im,aB⟩:∃ z,i.mode=z:=⟨_,rfl⟩;obtain⟨it,a5⟩:∃ z,i.time=z:=⟨_,rfl⟩;obtain⟨ay,ap⟩:∃ z,i.dirty=z:=⟨_,rfl⟩;have f0:=hf.n0;have f3:=hf.n3;have fe:=hf.ent;have g0:=hf.c0;have g1:=hf.c1;have g2:=hf.c2;have g3:=hf.c3;have g4:=hf.c4;rw[ax]at g0;rw[aB]at g1;rw[a5]at g2;rw[au]at g3;rw[ap]at g4;obtain⟨l1,l2,l3⟩:=hf.lt
    have bj:(#[.int .i64 ik,.int .i64 im,.int .i64 it,.string ID,.bool false]:Array Value)=#[.int .i64 (syncI i).kind,.int .i64 (syncI i).mode,.int .i64 (syncI i).time,txt (syncI i).data,.bool (syncI i).dirty]:=by
     rw[<- ax,← aB,← a5,← au];rfl
    have b0:=hid bj
    have am:kindD E p≠0:=by
     rw[hf.knd];rcases okI_kind hf.ok with h|h|h<;>omega
    have aR:Hid (Z=({ E with inos:=E.inos.set ((q+1)-1) (syncI i) },0)):=hid (by rw[HZ.out,← hf.set syncI];simp[syncE,refuse,firstE,whenE,aa,am]);have a6:=hid hf;clear hf ax aB a5 au ap aA aa ad bj am;repeat (first|go_skip|go_guarded|go_step|go_upon)
    refine wp_region_noPanic ?_;with_reducible refine QT.region_mix (S:=fun w'=>w'.cell? ⟨Q,3,none⟩=some (.slice (some ⟨gi,0,none⟩) ni ci)/\w'.cell? ⟨Q,0,none⟩=some (.slice (some ⟨g,o,none⟩) n cn)/\w'.cell? ⟨g,o+k*2+1,none⟩=some (.int .i64 ((q+1:Nat):Int))/\w'.cell? ⟨gi,q*5,none⟩=some (.int .i64 ik)/\w'.cell? ⟨gi,q*5+1,none⟩=some (.int .i64 im)/\w'.cell? ⟨gi,q*5+2,none⟩=some (.int .i64 it)/\w'.cell? ⟨gi,q*5+3,none⟩=some (.string ID)/\w'.cell? ⟨gi,q*5+4,none⟩=some (.bool ay)) [(true,0),(true,1),(true,2),(true,3),(true,4),(true,5),(true,6),(true,7),(true,8),(true,9),(true,10),(true,11),(true,12),(true,13),(true,14),(false,15)] 16 (by kernel_rfl) (by kernel_rfl) ?_ ?_ ?_
    ·exact fun _ _ _ _ _ h=>h
    ·exact⟨f3,f0,fe,g0,g1,g2,g3,g4⟩
    intro _;simp only[QT.pickM,filterMap_cons,filterMap_nil,List.getElem?_cons_succ,List.getElem?_cons_zero,Option.map_some,drop_succ_cons,drop_zero];iterate 15 (refine QT.wpMix_take _ (by rfl) (by intro w' a9;obtain⟨y0,y1,y2,y3,y4,y5,y6,y7⟩:=a9;go_simp;first|done|rfl) ?_;try simp only[Act.put,setIfInBounds_toArray,set_cons_zero,set_cons_succ])
    intro K' hK;rw[if_pos (by rfl)];go_simp;have bA:Below w3.heap.size w3 (w3.alloc (.cells #[.int .i64 0,.int .i64 0,.int .i64 0,.string ⟨#[]⟩,.bool false] 128)).drew:=((Below.refl _ _).alloc (Nat.le_refl _) _).drew;refine hK.out _ _ ⟨(bA.cell (p:=⟨Q,3,none⟩) l1).trans f3,(bA.cell (p:=⟨Q,0,none⟩) l1).trans f0,(bA.cell (p:=⟨g,o+k*2+1,none⟩) l2).trans fe,(bA.cell (p:=⟨gi,q*5,none⟩) l3).trans g0,(bA.cell (p:=⟨gi,q*5+1,none⟩) l3).trans g1,(bA.cell (p:=⟨gi,q*5+2,none⟩) l3).trans g2,(bA.cell (p:=⟨gi,q*5+3,none⟩) l3).trans g3,(bA.cell (p:=⟨gi,q*5+4,none⟩) l3).trans g4⟩ ?_;clear hK K';refine QT.wpMix_nil ?_;try simp only[Act.put,setIfInBounds_toArray,set_cons_zero,set_cons_succ]
    clear f0 f3 fe g0 g1 g2 g3 g4;repeat (first|go_skip|go_guarded|go_step|go_upon)
    refine NoPanic.normal ?_;repeat (first|go_skip|go_guarded|go_step|go_upon)
    have b6:Below w3.heap.size w3 (w3.alloc (.cells #[.int .i64 ik,.int .i64 im,.int .i64 it,.string ID,.bool false] 128)).drew:=((Below.refl _ _).alloc (Nat.le_refl _) _).drew;have r6:(w3.alloc (.cells #[.int .i64 ik,.int .i64 im,.int .i64 it,.string ID,.bool false] 128)).drew.heap[w3.heap.size]?=some (.cells #[.int .i64 ik,.int .i64 im,.int .i64 it,.string ID,.bool false] 128 (0,0)):=heap_alloc_new w3 _;clear bA;generalize (w3.alloc (.cells #[.int .i64 ik,.int .i64 im,.int .i64 it,.string ID,.bool false] 128)).drew=w6 at b6 r6 ⊢;have a7:=a6.out.below b6;have f0:=a7.n0;have fe:=a7.ent;obtain⟨s0,s1,s2,s3,s4⟩:=row5 r6;have B6:=hid (Below.trans B3.out (b6.mono B3.out.size));have bb:=hid (aE.out.below b6);clear b6 r6 a7;refine wp_region_noPanic ?_;with_reducible refine QT.region_mix (S:=fun w'=>w'.cell? ⟨Q,0,none⟩=some (.slice (some ⟨g,o,none⟩) n cn)/\w'.cell? ⟨g,o+k*2+1,none⟩=some (.int .i64 ((q+1:Nat):Int))/\w'.cell? ⟨w3.heap.size,0,none⟩=some (.int .i64 ik)/\w'.cell? ⟨w3.heap.size,1,none⟩=some (.int .i64 im)/\w'.cell? ⟨w3.heap.size,2,none⟩=some (.int .i64 it)/\w'.cell? ⟨w3.heap.size,3,none⟩=some (.string ID)/\w'.cell? ⟨w3.heap.size,4,none⟩=some (.bool false)) [(true,0),(true,1),(true,2),(true,3),(true,4),(true,5),(true,6),(true,7),(true,8),(true,9)] 10 (by kernel_rfl) (by kernel_rfl) ?_ ?_ ?_
    ·exact fun _ _ _ _ _ h=>h
    ·exact⟨f0,fe,s0,s1,s2,s3,s4⟩
    intro _;simp only[QT.pickM,filterMap_cons,filterMap_nil,List.getElem?_cons_succ,List.getElem?_cons_zero,Option.map_some,drop_succ_cons,drop_zero];iterate 10 (refine QT.wpMix_take _ (by rfl) (by intro w' a9;obtain⟨y0,y1,y2,y3,y4,y5,y6⟩:=a9;go_simp;first|done|rfl) ?_;try simp only[Act.put,setIfInBounds_toArray,set_cons_zero,set_cons_succ])
    refine QT.wpMix_nil ?_;have aS:=kset_any w w6.drew T1 Q (m+1) E (q+1) (syncI i) ⟨x1,bb.out.below (Below.refl _ _).drew⟩ hm (by omega) (by have:=a6.out.len;have:=a6.out.qn;omega);unfold riV at aS;rw[<- b0.out]at aS;have bc:=hid aS;clear aS f0 fe s0 s1 s2 s3 s4;repeat (first|go_skip|go_guarded|go_step|go_upon)
    refine bc.out.mono ?_;rintro r w7 ⟨rfl,bi⟩;simp only[];have bL:=hid bi;clear bi;repeat (first|go_skip|go_guarded|go_step|go_upon)
    refine NoPanic.normal ?_;repeat (first|go_skip|go_guarded|go_step|go_upon)
    go_ret;rw[aR.out];exact⟨rfl,aD.out _ _ (RAft.under (Below.trans B6.out ((Below.refl _ _).drew.mono B6.out.size)) bL.out)⟩
 ·have HZ:=hid (al.out h0);have bg:(er != 0)=true:=by simpa using h0
  have aY:(er==0)=false:=by simpa using h0
  clear ad h0 aJ al ak;repeat (first|go_skip|go_guarded|go_step|go_upon)
  go_ret;rw[HZ.out];exact⟨rfl,aD.out _ _ (RAft.same ⟨x1,ag.out⟩)⟩
end RK
end
section
open Go.RowKit Go.Lib Go.BigFrame
namespace RK
open OM TP TM DP DM FP DG TG TR
theorem cell_set4(w:World)(b c j:Nat)(a0 a1 a2 a3:Value)(h:c≠b):((((w.setCell ⟨b,0,none⟩ a0).setCell ⟨b,1,none⟩ a1).setCell ⟨b,2,none⟩ a2).setCell ⟨b,3,none⟩ a3).cell? ⟨c,j,none⟩=w.cell? ⟨c,j,none⟩ :=
 World.cell?_of_block (a:=⟨c,j,none⟩) ((set_other _ b 3 c a3 h).trans ((set_other _ b 2 c a2 h).trans ((set_other _ b 1 c a1 h).trans (set_other _ b 0 c a0 h))))
theorem kget_done{w W W0 w1 w8 w9:World}{T T1:Nat->Prop}{Q m:Nat}{E:Dk}(hq:Q<W.heap.size)(hT:∀ k,T k->k<W.heap.size)(hw:w.heap.size<=W.heap.size)(hb0:Below W.heap.size W W0)(br:W.heap.size+2<=W0.heap.size)(h1:RS w w1 T1 Q m E)(ai:∀ k,T1 k->T k\/W0.heap.size<=k)(ah:Out (fun k=>T k\/k=Q) W0 w1)
  (hb8:Below w1.heap.size w1 w8) (hs9:w8.heap.size<=w9.heap.size) (ho9:Out (fun k=>k=W.heap.size\/k=W.heap.size+1) w8 w9):RAft w W T Q m E w9:=by
 have bV:=ah.size;have bQ:=hb8.size;refine⟨T1,(h1.below hb8).out ho9 (fun k hk=>⟨fun h=>?_,by omega,by omega⟩),fun k hk=>(ai k hk).imp id (fun h=>by omega),?_⟩
 ·rcases ai k h with h2|h2
  ·have:=hT k h2;omega
  ·omega
 ·have u1:=(((Out.refl (fun k=>T k\/k=Q) W).thenBelow hb0).then ah (fun j _ h=>h)).thenBelow hb8;exact u1.then ho9 (fun j hj h=>by omega)
theorem kget_any(w W:World)(T:Nat->Prop)(Q m:Nat)(D:Dk)(p:List UInt8)(h:RS w W T Q m D)(hv:V D)(hm:m+1<=1000)(hp:p.length<=1048576) :
  Calls Tryz.prog 84 #[.pointer (some ⟨Q,0,none⟩),txt p] W fun r W'=>r=.returned (.tuple #[ndVal (DP.getD D p).2.1,stampVal (DP.getD D p).2.2.1,.int .i64 (DP.getD D p).2.2.2])/\RAft w W T Q (m+1) (DP.getD D p).1 W':=by
 obtain⟨P,hP,aI⟩:=txt_of p;obtain⟨E,hE⟩:∃ E,(stepD D ⟨cGet,p,[]⟩).1=E:=⟨_,rfl⟩;obtain⟨er,ab⟩:∃ e,(stepD D ⟨cGet,p,[]⟩).2=e:=⟨_,rfl⟩;have B0:Hid (Below W.heap.size W ((W.alloc (.cells #[.string ⟨#[]⟩,.int .i64 0,.string ⟨#[]⟩,.int .i64 0] 45)).alloc (.cells #[.int .i64 0,.int .i64 0,.int .i64 0] 47))):=hid (((Below.refl _ _).alloc (Nat.le_refl _) _).alloc (by simp) _);have RN:Hid (((W.alloc (.cells #[.string ⟨#[]⟩,.int .i64 0,.string ⟨#[]⟩,.int .i64 0] 45)).alloc (.cells #[.int .i64 0,.int .i64 0,.int .i64 0] 47)).heap[W.heap.size]?=some (.cells #[.string ⟨#[]⟩,.int .i64 0,.string ⟨#[]⟩,.int .i64 0] 45 (0,0))):=hid (RK.old_row (heap_alloc_new W _))
 have bt:Hid (((W.alloc (.cells #[.string ⟨#[]⟩,.int .i64 0,.string ⟨#[]⟩,.int .i64 0] 45)).alloc (.cells #[.int .i64 0,.int .i64 0,.int .i64 0] 47)).heap[W.heap.size+1]?=some (.cells #[.int .i64 0,.int .i64 0,.int .i64 0] 47 (0,0))):=hid (by
  have:=heap_alloc_new (W.alloc (.cells #[.string ⟨#[]⟩,.int .i64 0,.string ⟨#[]⟩,.int .i64 0] 45)) (.cells #[.int .i64 0,.int .i64 0,.int .i64 0] 47);rw[World.size_alloc]at this
  exact this)
 obtain⟨W0,aT⟩:∃ V,((W.alloc (.cells #[.string ⟨#[]⟩,.int .i64 0,.string ⟨#[]⟩,.int .i64 0] 45)).alloc (.cells #[.int .i64 0,.int .i64 0,.int .i64 0] 47))=V:=⟨_,rfl⟩;have bl:Hid (W.heap.size+2<=W0.heap.size):=hid (by rw[<- aT];simp);rw[aT]at B0 RN bt;have aN:=h.lts;have bu:w.heap.size<=W.heap.size:=by obtain⟨xx,bH⟩:=h;exact bH.bel.size
 have CS:Hid (Calls Tryz.prog 132 #[.pointer (some ⟨Q,0,none⟩),.string ⟨#[71,101,116]⟩,.string P,.string ⟨#[]⟩] W0 fun r w'=>(∃ b,r=.returned (.tuple #[.int .i64 er,.bool b]))/\RAft w W0 T Q (m+1) E w'):=hid (by
  have:=kstep_any w W0 T Q m D ⟨cGet,p,[]⟩ (h.below B0.out) hv hm;unfold fullB at this;rw[hE,ab]at this;simp only at this;rw[hP]at this;refine this.mono ?_;rintro r w' ⟨⟨b,h1,_⟩,h2⟩
  exact⟨⟨b,h1⟩,h2⟩)
 have al:Hid (er≠0->DP.getD D p=(E,(nodeZ,stampZ,er))):=hid (fun hz=>by
  unfold DP.getD;rw[after_no (by rw[ab];exact hz)];simp only
  rw[if_neg (by rw[ab];exact hz),hE,ab])
 have ak:Hid (er=0->missE E p≠0->DP.getD D p=(E,(nodeZ,stampZ,missE E p))):=hid (fun hz hz2=>by
  unfold DP.getD;rw[after_yes (by rw[ab];exact hz),hE];unfold refuse;rw[if_neg hz2];simp only
  rw[if_neg hz2])
 have bd:Hid (er=0->missE E p=0->DP.getD D p=(E,(gotN E p,gotS E p,0))):=hid (fun hz hz2=>by
  unfold DP.getD;rw[after_yes (by rw[ab];exact hz),hE];unfold refuse;rw[if_pos hz2]
  simp)
 have aF:Hid (V E):=hid (hE ▸ hv.step ⟨cGet,p,[]⟩);have aq:=hid aN;have bE:=hid bu;have HP:=hid hP;have a4:=hid aI;have bf:=hid hp;obtain⟨Z,hZ⟩:∃ Z,DP.getD D p=Z:=⟨_,rfl⟩;rw[hZ]at al ak bd;rw[hZ,hP];clear h hv hE ab hP aI hp hZ aN bu;go_enter Tryz.func84,Tryz.ntmps84;repeat (first|go_skip|go_guarded|go_step|go_upon)
 try rw[aT]
 clear aT;refine CS.out.mono ?_;rintro r w1 ⟨⟨fb,rfl⟩,T1,aM,ai,ah⟩;simp only[];have br:=bl.out
 have aw:=hid ((ah.block W.heap.size (by omega) (fun h=>by
  rcases h with h|h
  ·have:=aq.out.2 _ h;omega
  ·have:=aq.out.1;omega)).trans RN.out)
 have av:=hid ((ah.block (W.heap.size+1) (by omega) (fun h=>by
  rcases h with h|h
  ·have:=aq.out.2 _ h;omega
  ·have:=aq.out.1;omega)).trans bt.out)
 have aK:Hid (∀ w8 w9,Below w1.heap.size w1 w8->w8.heap.size<=w9.heap.size->Out (fun k=>k=W.heap.size\/k=W.heap.size+1) w8 w9->RAft w W T Q (m+1) E w9):=hid (fun w8 w9 h1 h2 h3=>kget_done aq.out.1 aq.out.2 bE.out B0.out bl.out aM ai ah h1 h2 h3);have bK:Hid (W.heap.size+2<=w1.heap.size):=hid (by have:=ah.size;omega);obtain⟨x1,ad⟩:=aM;have ag:=hid ad
 have bF:Hid (¬ T1 W.heap.size/\¬ T1 (W.heap.size+1)/\Q≠W.heap.size/\Q≠W.heap.size+1):=hid (by
  have h2:=aq.out.1;refine⟨fun h=>?_,fun h=>?_,by omega,by omega⟩
  ·rcases ai _ h with h1|h1
   ·have:=aq.out.2 _ h1;omega
   ·omega
  ·rcases ai _ h with h1|h1
   ·have:=aq.out.2 _ h1;omega
   ·omega)
 by_cases h0:er=0
 ·subst h0;clear ai ah ad CS br;by_cases hpe:p=[]
  ·have HZ:=hid (bd.out rfl (by rw[hpe];rfl));have bG:P.toList.isEmpty=true:=by rw[toList_data,a4.out,hpe];rfl
   have aW:(P.toList==[])=true:=by rw[toList_data,a4.out,hpe];rfl
   have b3:=hid hpe;obtain⟨t0,t1,t2,t3,tf⟩:=row4 aw.out;obtain⟨s0,s1,s2,sf⟩:=row3 av.out;clear hpe;repeat (first|go_skip|go_guarded|go_step|go_upon)
   refine bodyPost_ret (v:=.tuple #[.agg #[.string ⟨#[]⟩,.int .i64 2,.string ⟨#[]⟩,.int .i64 0],.agg #[.int .i64 0,.int .i64 0,.int .i64 0],.int .i64 0]) ?_ rfl ⟨?_,?_⟩
   ·rw[results_cell2 rfl];go_simp
   ·rw[HZ.out,b3.out];rfl
   ·rw[HZ.out];exact aK.out _ _ (Below.refl _ _) (by simp[set_size]) (out7 _ _ _ _ _ _ _ _ _)
  ·have bG:P.toList.isEmpty=false:=by rw[toList_data,a4.out];simpa using hpe
   have aW:(P.toList==[])=false:=by rw[toList_data,a4.out];simpa using hpe
   have CP:=hid (fun V=>rpath_txt P p a4.out bf.out V);obtain⟨pb,aa⟩:∃ b,NP.pathL p=b:=⟨_,rfl⟩;rw[aa]at CP
   cases pb with
   | false =>
    have a8:missE E p=11:=by unfold missE;simp[firstE,whenE,aa,hpe]
    have HZ:=hid (ak.out rfl (by rw[a8];decide));rw[a8]at HZ;clear aa hpe a8;repeat (first|go_skip|go_guarded|go_step|go_upon)
    refine(CP.out _).mono ?_;rintro r w2 ⟨rfl,ac⟩;simp only[];have B2:=hid ac;have rn:=(ac.block _ (Array.getElem?_eq_some_iff.1 aw.out).1).trans aw.out;have rs:=(ac.block _ (Array.getElem?_eq_some_iff.1 av.out).1).trans av.out;obtain⟨t0,t1,t2,t3,tf⟩:=row4 rn;obtain⟨s0,s1,s2,sf⟩:=row3 rs;clear rn rs;clear ac;repeat (first|go_skip|go_guarded|go_step|go_upon)
    refine bodyPost_ret (v:=.tuple #[.agg #[.string ⟨#[]⟩,.int .i64 0,.string ⟨#[]⟩,.int .i64 0],.agg #[.int .i64 0,.int .i64 0,.int .i64 0],.int .i64 11]) ?_ rfl ⟨?_,?_⟩
    ·rw[results_cell2 rfl];go_simp
    ·rw[HZ.out];rfl
    ·rw[HZ.out];exact aK.out _ _ B2.out (by simp[set_size]) (out7 _ _ _ _ _ _ _ _ _)
   | true =>
    repeat (first|(go_at_call 86;refine(CP.out _).mono ?_;rintro r w2 ⟨rfl,ac⟩;simp only[];have B2:=hid ac;have aQ:=hid (ag.out.below ac);clear ac)|go_skip|go_guarded|go_step|go_upon)
    have CF:=kfind_any w w2 T1 Q (m+1) E p ⟨x1,aQ.out⟩ aF.out.names.len;rw[HP.out]at CF;refine CF.mono ?_;rintro r w3 ⟨z,rfl,aA,ar⟩;simp only[];have B3:=hid (Below.trans B2.out (ar.mono B2.out.size));have aE:=hid (aQ.out.below ar);clear ar;rcases found_at aE.out aF.out (path_ne aa) aA with ⟨rfl,am,ao⟩|⟨k,q,i,n,ni,g,o,cn,gi,ci,rfl,hf⟩
    ·have a8:missE E p=74:=by unfold missE;simp[firstE,whenE,aa,am]
     have HZ:=hid (ak.out rfl (by rw[a8];decide));rw[a8]at HZ;clear aA am ao aa a8 hpe;have rn:=(B3.out.block _ (Array.getElem?_eq_some_iff.1 aw.out).1).trans aw.out;have rs:=(B3.out.block _ (Array.getElem?_eq_some_iff.1 av.out).1).trans av.out;obtain⟨t0,t1,t2,t3,tf⟩:=row4 rn;obtain⟨s0,s1,s2,sf⟩:=row3 rs;clear rn rs;repeat (first|go_skip|go_guarded|go_step|go_upon)
     refine bodyPost_ret (v:=.tuple #[.agg #[.string ⟨#[]⟩,.int .i64 0,.string ⟨#[]⟩,.int .i64 0],.agg #[.int .i64 0,.int .i64 0,.int .i64 0],.int .i64 74]) ?_ rfl ⟨?_,?_⟩
     ·rw[results_cell2 rfl];go_simp
     ·rw[HZ.out];rfl
     ·rw[HZ.out];exact aK.out _ _ B3.out (by simp[set_size]) (out7 _ _ _ _ _ _ _ _ _)
    ·have aL:IntKind.i64.wrap (((q+1:Nat):Int)-1)=(q:Int):=by rw[IntKind.wrap_i64];have:=hf.qm;omega
     have aO:IntKind.i64.wrap (q:Int)=(q:Int):=by rw[IntKind.wrap_i64];have:=hf.qm;omega
     have aH:IntKind.i64.wrap ((q:Int)+1-1)=(q:Int):=by rw[IntKind.wrap_i64];have:=hf.qm;omega
     have aP:RowKit.wrap64 (q:Int)=(q:Int):=by unfold RowKit.wrap64;have:=hf.qm;omega
     have bN:¬((k:Int)<0):=by omega
     have ba:decide ((k:Int)<0)=false:=by simp
     have bv:=hf.qn;have bz:=hf.qm;have b7:=hf.kn;have bh:=hf.kl;obtain⟨ID,au,-⟩:=txt_of i.data;obtain⟨ik,ax⟩:∃ z,i.kind=z:=⟨_,rfl⟩;obtain⟨im,aB⟩:∃ z,i.mode=z:=⟨_,rfl⟩;obtain⟨it,a5⟩:∃ z,i.time=z:=⟨_,rfl⟩;obtain⟨ay,ap⟩:∃ z,i.dirty=z:=⟨_,rfl⟩;have f0:=hf.n0;have f3:=hf.n3;have fe:=hf.ent;have g0:=hf.c0;have g1:=hf.c1;have g2:=hf.c2;have g3:=hf.c3;have g4:=hf.c4;rw[ax]at g0;rw[aB]at g1;rw[a5]at g2;rw[au]at g3;rw[ap]at g4;obtain⟨l1,l2,l3⟩:=hf.lt
     have am:kindD E p≠0:=by
      rw[hf.knd];rcases okI_kind hf.ok with h|h|h<;>omega
     have bq:gotN E p=⟨p,i.kind,i.data,i.mode⟩:=by
      unfold gotN;rw[if_neg (path_ne aa),hf.fnd];show({ nodeOf E.inos (en p ((q+1:Nat):Int))with path:=p }:Nd)=_;unfold nodeOf;rw[show(en p ((q+1:Nat):Int)).kind=((q+1:Nat):Int) from rfl,hf.ino]
     have bo:gotS E p=⟨((q+1:Nat):Int),i.data.length,i.time⟩:=by
      unfold gotS;rw[if_neg (path_ne aa),hf.fnd];show(⟨((q+1:Nat):Int),(inoOf E.inos ((q+1:Nat):Int)).data.length,(inoOf E.inos ((q+1:Nat):Int)).time⟩:Stamp)=_;rw[hf.ino]
     have bM:=hid bq;have bC:=hid bo;have HZ:=hid (bd.out rfl (by unfold missE;simp[firstE,whenE,aa,am]));have b5:=hid ax;have bB:=hid aB;have bJ:=hid a5;have aZ:=hid au
     have aX:Hid (i.data.length=ID.size):=hid (by
      have h1:txt i.data=.string ID:=au;obtain⟨bU,h2,h3⟩:=txt_of i.data;rw[h1]at h2;injection h2 with h2
      rw[h2,size_eq,h3])
     have a6:=hid hf;clear hf ax aB a5 au ap aA aa am bq bo;repeat (first|go_skip|go_guarded|go_step|go_upon)
     refine wp_region_noPanic ?_;with_reducible refine QT.region_mix (S:=fun w'=>w'.cell? ⟨Q,3,none⟩=some (.slice (some ⟨gi,0,none⟩) ni ci)/\w'.cell? ⟨Q,0,none⟩=some (.slice (some ⟨g,o,none⟩) n cn)/\w'.cell? ⟨g,o+k*2+1,none⟩=some (.int .i64 ((q+1:Nat):Int))/\w'.cell? ⟨gi,q*5,none⟩=some (.int .i64 ik)/\w'.cell? ⟨gi,q*5+1,none⟩=some (.int .i64 im)/\w'.cell? ⟨gi,q*5+2,none⟩=some (.int .i64 it)/\w'.cell? ⟨gi,q*5+3,none⟩=some (.string ID)/\w'.cell? ⟨gi,q*5+4,none⟩=some (.bool ay)) [(true,0),(true,1),(true,2),(true,3),(true,4),(true,5),(true,6),(true,7),(true,8),(true,9),(true,10),(true,11),(true,12),(true,13),(true,14),(false,15)] 16 (by kernel_rfl) (by kernel_rfl) ?_ ?_ ?_
     ·exact fun _ _ _ _ _ h=>h
     ·exact⟨f3,f0,fe,g0,g1,g2,g3,g4⟩
     intro _;simp only[QT.pickM,filterMap_cons,filterMap_nil,List.getElem?_cons_succ,List.getElem?_cons_zero,Option.map_some,drop_succ_cons,drop_zero];iterate 15 (refine QT.wpMix_take _ (by rfl) (by intro w' a9;obtain⟨y0,y1,y2,y3,y4,y5,y6,y7⟩:=a9;go_simp;first|done|rfl) ?_;try simp only[Act.put,setIfInBounds_toArray,set_cons_zero,set_cons_succ])
     intro K' hK;rw[if_pos (by rfl)];go_simp;have bA:Below w3.heap.size w3 (w3.alloc (.cells #[.int .i64 0,.int .i64 0,.int .i64 0,.string ⟨#[]⟩,.bool false] 128)).drew:=((Below.refl _ _).alloc (Nat.le_refl _) _).drew;refine hK.out _ _ ⟨(bA.cell (p:=⟨Q,3,none⟩) l1).trans f3,(bA.cell (p:=⟨Q,0,none⟩) l1).trans f0,(bA.cell (p:=⟨g,o+k*2+1,none⟩) l2).trans fe,(bA.cell (p:=⟨gi,q*5,none⟩) l3).trans g0,(bA.cell (p:=⟨gi,q*5+1,none⟩) l3).trans g1,(bA.cell (p:=⟨gi,q*5+2,none⟩) l3).trans g2,(bA.cell (p:=⟨gi,q*5+3,none⟩) l3).trans g3,(bA.cell (p:=⟨gi,q*5+4,none⟩) l3).trans g4⟩ ?_;clear hK K';refine QT.wpMix_nil ?_;try simp only[Act.put,setIfInBounds_toArray,set_cons_zero,set_cons_succ]
     clear f0 f3 fe g0 g1 g2 g3 g4;repeat (first|go_skip|go_guarded|go_step|go_upon)
     refine NoPanic.normal ?_;repeat (first|go_skip|go_guarded|go_step|go_upon)
     have b6:Below w3.heap.size w3 (w3.alloc (.cells #[.int .i64 ik,.int .i64 im,.int .i64 it,.string ID,.bool ay] 128)).drew:=((Below.refl _ _).alloc (Nat.le_refl _) _).drew;have r6:(w3.alloc (.cells #[.int .i64 ik,.int .i64 im,.int .i64 it,.string ID,.bool ay] 128)).drew.heap[w3.heap.size]?=some (.cells #[.int .i64 ik,.int .i64 im,.int .i64 it,.string ID,.bool ay] 128 (0,0)):=heap_alloc_new w3 _;clear bA;generalize (w3.alloc (.cells #[.int .i64 ik,.int .i64 im,.int .i64 it,.string ID,.bool ay] 128)).drew=w6 at b6 r6 ⊢;have a7:=a6.out.below b6;have f0:=a7.n0;have fe:=a7.ent;obtain⟨i0,i1,i2,i3,-⟩:=row5 r6;have aU:=Below.trans B3.out (b6.mono B3.out.size);have B6:=hid aU;have bW:w3.heap.size<w6.heap.size:=(Array.getElem?_eq_some_iff.1 r6).1;have rn:=(aU.block _ (Array.getElem?_eq_some_iff.1 aw.out).1).trans aw.out;have rs:=(aU.block _ (Array.getElem?_eq_some_iff.1 av.out).1).trans av.out;obtain⟨t0,t1,t2,t3,tf⟩:=row4 rn;obtain⟨s0,s1,s2,sf⟩:=row3 rs;clear rn rs;clear b6 r6 a7 aU;have ar:W.heap.size+2<=w3.heap.size:=by have:=bK.out;have:=B3.out.size;omega
     have aV:T1 g:=by
      have hr:=aE.out.row;unfold rdC at hr;obtain⟨r0,-⟩:=row10 hr;rw[a6.out.n0]at r0;injection r0 with r0;injection r0 with r0 _ _;obtain⟨g',o',bD,_,bx,_,_⟩:=aE.out.names (List.length_pos_of_mem (find_mem a6.out.fnd).1);rw[bD]at r0;injection r0 with r0;injection r0 with r0 _ _;rw[r0];exact bx
     obtain⟨bm,ac,bO,bS⟩:=bF.out;have b2:g≠W.heap.size:=fun e=>bm (e ▸ aV);have bP:g≠W.heap.size+1:=fun e=>ac (e ▸ aV);clear aV bm ac;refine wp_region_noPanic ?_;with_reducible refine QT.region_mix (S:=fun w'=>w'.cell? ⟨Q,0,none⟩=some (.slice (some ⟨g,o,none⟩) n cn)/\w'.cell? ⟨g,o+k*2+1,none⟩=some (.int .i64 ((q+1:Nat):Int))/\w'.cell? ⟨w3.heap.size,0,none⟩=some (.int .i64 ik)/\w'.cell? ⟨w3.heap.size,1,none⟩=some (.int .i64 im)/\w'.cell? ⟨w3.heap.size,2,none⟩=some (.int .i64 it)/\w'.cell? ⟨w3.heap.size,3,none⟩=some (.string ID)) [(true,0),(true,1),(true,2),(true,3),(true,4),(true,5),(true,6),(true,7),(true,8),(true,9),(true,10),(true,11),(true,12),(true,13),(true,14),(true,15),(true,16),(true,17),(true,18),(true,19),(true,20),(true,21),(false,22)] 23 (by kernel_rfl) (by kernel_rfl) ?_ ?_ ?_
     ·exact fun _ _ _ _ _ h=>h
     ·exact⟨f0,fe,i0,i1,i2,i3⟩
     intro _;simp only[QT.pickM,filterMap_cons,filterMap_nil,List.getElem?_cons_succ,List.getElem?_cons_zero,Option.map_some,drop_succ_cons,drop_zero];iterate 22 (refine QT.wpMix_take _ (by rfl) (by intro w' a9;obtain⟨y0,y1,y2,y3,y4,y5⟩:=a9;go_simp;first|done|rfl) ?_;try simp only[Act.put,setIfInBounds_toArray,set_cons_zero,set_cons_succ])
     intro K' hK;rw[if_pos (by rfl)];have t0:w6.drew.cell? ⟨W.heap.size,0,none⟩=_:=t0;have t1:w6.drew.cell? ⟨W.heap.size,1,none⟩=_:=t1;have t2:w6.drew.cell? ⟨W.heap.size,2,none⟩=_:=t2;have t3:w6.drew.cell? ⟨W.heap.size,3,none⟩=_:=t3;have tf:∀ j,w6.drew.frozen? ⟨W.heap.size,j,none⟩=false:=tf;have s0:w6.drew.cell? ⟨W.heap.size+1,0,none⟩=_:=s0;have s1:w6.drew.cell? ⟨W.heap.size+1,1,none⟩=_:=s1;have s2:w6.drew.cell? ⟨W.heap.size+1,2,none⟩=_:=s2;have sf:∀ j,w6.drew.frozen? ⟨W.heap.size+1,j,none⟩=false:=sf;have S6:=hid (And.intro f0 (And.intro fe (And.intro i0 (And.intro i1 (And.intro i2 i3)))));have BD:Hid (Below w1.heap.size w1 w6.drew):=hid B6.out.drew;clear f0 fe i0 i1 i2 i3;have bs:w6.drew.cell? ⟨Q,0,none⟩=some (.slice (some ⟨g,o,none⟩) n cn)/\w6.drew.cell? ⟨g,o+k*2+1,none⟩=some (.int .i64 ((q+1:Nat):Int))/\w6.drew.cell? ⟨w3.heap.size,0,none⟩=some (.int .i64 ik)/\w6.drew.cell? ⟨w3.heap.size,1,none⟩=some (.int .i64 im)/\w6.drew.cell? ⟨w3.heap.size,2,none⟩=some (.int .i64 it)/\w6.drew.cell? ⟨w3.heap.size,3,none⟩=some (.string ID):=S6.out;have bp:=hid bs;clear bs S6;generalize w6.drew=w7 at t0 t1 t2 t3 tf s0 s1 s2 sf BD bp ⊢;go_simp;have az:=fun(c j:Nat) (h:c≠W.heap.size)=>cell_set4 w7 W.heap.size c j (.string P) (.int .i64 ik) (.string ID) (.int .i64 im) h;obtain⟨v0,v1,v2,v3,v4,v5⟩:=bp.out;refine hK.out _ _ ⟨(az Q 0 bO).trans v0,(az g _ b2).trans v1,(az _ 0 (by omega)).trans v2,(az _ 1 (by omega)).trans v3,(az _ 2 (by omega)).trans v4,(az _ 3 (by omega)).trans v5⟩ ?_;clear hK K' az v0 v1 v2 v3 v4 v5;refine QT.wpMix_nil ?_;try simp only[Act.put,setIfInBounds_toArray,set_cons_zero,set_cons_succ]
     repeat (first|go_skip|go_guarded|go_step|go_upon)
     refine NoPanic.normal ?_;repeat (first|go_skip|go_guarded|go_step|go_upon)
     refine bodyPost_ret (v:=.tuple #[.agg #[.string P,.int .i64 ik,.string ID,.int .i64 im],.agg #[.int .i64 ((q+1:Nat):Int),.int .i64 (ID.size:Nat),.int .i64 it],.int .i64 0]) ?_ rfl ⟨?_,?_⟩
     ·rw[results_cell2 rfl];go_simp
     ·rw[HZ.out];simp only;rw[bM.out,bC.out];unfold ndVal stampVal;simp only;rw[HP.out,aZ.out,b5.out,bB.out,bJ.out,aX.out]
     ·rw[HZ.out];exact aK.out _ _ BD.out (by simp[set_size]) (out7 _ _ _ _ _ _ _ _ _)
 ·have HZ:=hid (al.out h0);have bg:(er != 0)=true:=by simpa using h0
  obtain⟨t0,t1,t2,t3,tf⟩:=row4 aw.out;obtain⟨s0,s1,s2,sf⟩:=row3 av.out;clear ai ah h0 ad;repeat (first|go_skip|go_guarded|go_step|go_upon)
  refine bodyPost_ret (v:=.tuple #[.agg #[.string ⟨#[]⟩,.int .i64 0,.string ⟨#[]⟩,.int .i64 0],.agg #[.int .i64 0,.int .i64 0,.int .i64 0],.int .i64 er]) ?_ rfl ⟨?_,?_⟩
  ·rw[results_cell2 rfl];go_simp
  ·rw[HZ.out];rfl
  ·rw[HZ.out];exact aK.out _ _ (Below.refl _ _) (by simp[set_size]) (out7 _ _ _ _ _ _ _ _ _)
end RK
end
end Go.Proofs.YtkmcjededpamnaaGreatDoor
