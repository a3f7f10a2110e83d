import Derived.Test.YtkmcjededpamnaaGreatDoorMg7
import Derived.Test.YtkmcjededpamnaaGreatDoorMg20
set_option linter.all false
set_option maxRecDepth 100000
set_option maxHeartbeats 0
namespace Go.Proofs.YtkmcjededpamnaaGreatDoor
open Go.RowKit Go.Lib Go.BigFrame
namespace TG
open OM TP TM TR
theorem out_len(ts:List Nd)(p:List UInt8){a b:List Nd}(h:a.length=b.length):(outL ts p a).length=(outL ts p b).length:=by
 unfold outL;simp only[List.length_append,List.length_map,h]
theorem bad_place(p:List UInt8)(v:List Nd):badP (v.map (placeN p))=!(v.all fun n=>NP.pathL (place p n.path)):=by
 unfold badP;rw[List.any_map]
 induction v with
 | nil=>rfl
 | cons x r ih =>
  rw[List.any_cons,List.all_cons,ih,Bool.not_and];rfl
theorem put_fault{ts:List Nd}{p:List UInt8}{v:List Nd}(ht:treeB ts=true)(hv:rightV v=true)(hp:NP.pathL p=true) :
  putL ts p v=(if faultL ts p (v.map (placeN p))=0 then outL ts p v else [],faultL ts p (v.map (placeN p))):=by
 have e1:(outL ts p (v.map (placeN p))).length=(outL ts p v).length:=out_len ts p (by simp);have e2:(v.map (placeN p)≠[])↔v≠[]:=by simp
 have n1:¬(treeB ts=false\/rightV v=false):=by rw[ht,hv];simp
 have n2:¬ NP.pathL p=false:=by rw[hp];simp
 by_cases a:v≠[]/\dirB ts (NP.parentL p)=false
 ·have f:faultL ts p (v.map (placeN p))=62:=by unfold faultL;rw[if_pos ⟨e2.2 a.1,a.2⟩]
  have g:putL ts p v=([],62):=by unfold putL;rw[if_neg n1,if_neg n2,if_pos a]
  rw[f,g];rfl
 ·have a2:¬(v.map (placeN p)≠[]/\dirB ts (NP.parentL p)=false):=fun h=>a ⟨e2.1 h.1,h.2⟩
  cases hb:(v.all fun n=>NP.pathL (place p n.path))with
  | false =>
   have f:faultL ts p (v.map (placeN p))=11:=by unfold faultL;rw[if_neg a2,bad_place,hb];rfl
   have g:putL ts p v=([],11):=by unfold putL;rw[if_neg n1,if_neg n2,if_neg a,hb];rfl
   rw[f,g];rfl
  | true =>
   by_cases c:1000<(outL ts p v).length
   ·have f:faultL ts p (v.map (placeN p))=32:=by unfold faultL;rw[if_neg a2,bad_place,hb,if_neg (by simp),e1,if_pos c]
    have g:putL ts p v=([],32):=by unfold putL;rw[if_neg n1,if_neg n2,if_neg a,hb,if_neg (by simp),if_pos c]
    rw[f,g];rfl
   ·have f:faultL ts p (v.map (placeN p))=0:=by unfold faultL;rw[if_neg a2,bad_place,hb,if_neg (by simp),e1,if_neg c]
    have g:putL ts p v=(outL ts p v,0):=by unfold putL;rw[if_neg n1,if_neg n2,if_neg a,hb,if_neg (by simp),if_neg c]
    rw[f,g];rfl
theorem own_nil{w:World}{base n c:Nat}{xs:List Value}(h:w.ownsRow base 45 4 (.slice none n c) n xs):c=0:=by
 rcases h.2 with ⟨e,_⟩|⟨g,cap,aH,e,_⟩
 ·simp at e;exact e.2
 ·simp at e
theorem small_place{p:List UInt8}{v:List Nd}(hp:NP.pathL p=true)(hv:rightV v=true)(hs:SmallG v):SmallG (v.map (placeN p)):=by
 intro n hn;obtain⟨x,hx,rfl⟩:=List.mem_map.1 hn;refine⟨?_,(hs x hx).2⟩;have h1:=((path_iff p).1 hp).1
 have h2:x.path.length<=400:=by
  rcases ((val_iff v).1 hv).path x hx with e|e
  ·rw[e];simp
  ·exact((path_iff _).1 e).1
 show(place p x.path).length<=_;unfold place;split
 ·omega
 ·rw[List.length_append,List.length_cons];omega
theorem put_any(ao:Option Addr)(ca:Nat)(ts:List Nd)(p:List UInt8)(bo:Option Addr)(cb:Nat)(v:List Nd)(w:World)(he:NF.Env w)(hlt:LayN w ao ts)(hlv:LayN w bo v)(hst:SmallG ts)(hsv:SmallG v)
  (l1:ts.length<=maxLen) (l2:v.length<=maxLen) (hca:ts.length<=ca) (hcb:v.length<=cb) (hp:p.length<=1048576) (hna:ao=none->ca=0) (hnb:bo=none->cb=0) :
  Calls Tryz.prog 164 #[.slice ao ts.length ca,txt p,.slice bo v.length cb] w (PutPost (putL ts p v) w):=by
 have cC:=check_any ao ca ts w he hlt hst l1 hca;have cR:∀ W,Below w.heap.size w W->Calls Tryz.prog 123 #[.slice bo v.length cb] W fun r w'=>r=.returned (.bool (rightV v))/\Below W.heap.size W w':=fun W hW=>rightV_any bo cb v W (he.below hW) (hlv.below hW) hsv l2 hcb;obtain⟨S,hS,a6⟩:=txt_of p;have cP:∀ W,Below w.heap.size w W->Calls Tryz.prog 60 #[.string S] W fun r w'=>r=.returned (.bool (NP.pathL p))/\Below W.heap.size W w':=fun W hW=>path_txt S p W (he.below hW) a6 hp;have ag:=checkG_zero ts;have cF:treeB ts=true->rightV v=true->NP.pathL p=true->putL ts p v=(if faultL ts p (v.map (placeN p))=0 then outL ts p v else [],faultL ts p (v.map (placeN p))):=put_fault
 have cU:rightV v=true->∀ W,Below w.heap.size w W->Calls Tryz.prog 198 #[.string S,.slice bo v.length cb] W (AtPost (v.map (placeN p)) W):=fun hv W hW=>by
  have:=under_any bo cb v p W (hlv.below hW) hnb hsv (val_len hv) hp;rw[hS,under_all hv]at this;exact this
 obtain⟨n,hn⟩:∃ n,ts.length=n:=⟨_,rfl⟩;obtain⟨m,hm⟩:∃ m,v.length=m:=⟨_,rfl⟩;have HN:=hid hn;have HM:=hid hm;unfold maxLen at l1 l2;rw[hn]at cC l1 hca ⊢;rw[hm]at cR cU l2 hcb ⊢;rw[hS];have aK:(n:Int)<=9223372036854775807:=by omega
 have aJ:(m:Int)<=9223372036854775807:=by omega
 obtain⟨E,hE⟩:∃ E:Nat,checkG ts=E:=⟨_,rfl⟩;obtain⟨bR,ab⟩:∃ b,rightV v=b:=⟨_,rfl⟩;obtain⟨bP,ad⟩:∃ b,NP.pathL p=b:=⟨_,rfl⟩;rw[hE]at cC ag;rw[ab]at cR;rw[ad]at cP
 have HP:Hid (putL ts p v=if treeB ts=false\/bR=false then([],60)else if bP=false then([],11)else putL ts p v):=hid (by
  by_cases a:treeB ts=false\/bR=false
  ·rw[if_pos a];unfold putL;rw[ab,if_pos a]
  ·rw[if_neg a];by_cases b:bP=false
   ·rw[if_pos b];unfold putL;rw[ab,ad,if_neg a,if_pos b]
   ·rw[if_neg b])
 have CC:=hid cC;have CR:=hid cR;have CP:=hid cP
 have a5:Hid (ChIn w ao ca ts p none 0 []\/treeB ts=false):=hid (by
  cases ht:treeB ts with
  | false=>exact .inr rfl
  | true=>exact .inl ⟨he,hlt,LayN.nil _ _,ht,hst,(fun m hm=>by simp at hm),by simp,hp,by rw[hn];exact hca,hna,fun _=>rfl⟩)
 have aB:Hid (SmallG v):=hid hsv;have HS:=hid hS;have CU:=hid cU;have az:=hid cF;clear cC cR cP hE hS a6 hn hm he hlt hlv hst hsv hp hna hnb cU cF;by_cases e1:(E:Int)=0
 ·have aE:((E:Int) != 0)=false:=by simp[e1]
  have ht:=ag.1 e1
  cases bR with
  | false =>
   have HF:=hid (HP.out.trans (if_pos (.inr rfl)));clear ag e1 ab ad;go_enter Tryz.func164,Tryz.ntmps164
   repeat (first
    | (go_at_call 53;refine CC.out.mono ?_;rintro r w1 ⟨rfl,hb⟩;simp only[];have B1:=hid hb;clear hb)
    | (go_at_call 123;refine OM.onB (CR.out _ B1.out) B1 ?_;intro w2 B2;simp only[])
    | go_skip|go_guarded|go_step|go_upon)
   go_ret2;exact PutPost.nil HF.out rfl B2.out
  | true =>
   cases bP with
   | false =>
    have HF:=hid ((HP.out.trans (if_neg (by rw[ht];simp))).trans (if_pos rfl));clear ag e1 ab ad;go_enter Tryz.func164,Tryz.ntmps164
    repeat (first
     | (go_at_call 53;refine CC.out.mono ?_;rintro r w1 ⟨rfl,hb⟩;simp only[];have B1:=hid hb;clear hb)
     | (go_at_call 123;refine OM.onB (CR.out _ B1.out) B1 ?_;intro w2 B2;simp only[])
     | (go_at_call 60;refine OM.onB (CP.out _ B2.out) B2 ?_;intro w3 B3;simp only[])
     | go_skip|go_guarded|go_step|go_upon)
    go_ret2;exact PutPost.nil HF.out rfl B3.out
   | true =>
    have HF:=hid (az.out ht ab ad);have a1:=hid (CU.out ab);have aF:m<=1000:=by have:=val_len ab;have:=HM.out;omega
    have a0:=hid (small_place ad ab aB.out);obtain⟨cs,aq⟩:∃ cs,v.map (placeN p)=cs:=⟨_,rfl⟩;have a8:=hid aq;have a3:cs.length=m:=by rw[<- aq,List.length_map,HM.out]
    have ah:=hid a3;have HI:=hid (a5.out.resolve_right (by rw[ht];simp));rw[aq]at a1 HF a0;clear ag e1 ab ad ht aq HP az CU a5 a3;go_enter Tryz.func164,Tryz.ntmps164
    repeat (first
     | (go_at_call 53;refine CC.out.mono ?_;rintro r w1 ⟨rfl,hb⟩;simp only[];have B1:=hid hb;clear hb)
     | (go_at_call 123;refine OM.onB (CR.out _ B1.out) B1 ?_;intro w2 B2;simp only[])
     | (go_at_call 60;refine OM.onB (CP.out _ B2.out) B2 ?_;intro w3 B3;simp only[])
     | (go_at_call 198;fail)
     | go_skip|go_guarded|go_step|go_upon)
    refine(a1.out _ B3.out).mono ?_;rintro r w4 ⟨u,rfl,aa,hb⟩;simp only[];have B4:=hid (Below.trans B3.out (hb.mono B3.out.size));rw[ah.out]at aa;obtain⟨ac,c4,rfl,_⟩:=owns_view aa
    have ak:LayN w4 ac cs:=by
     have h1:=aa;rw[<- ah.out]at h1;obtain⟨aI,c5,e5,h5⟩:=lay_own h1;simp only[Value.slice.injEq,ah.out,true_and]at e5;rw[e5.1];exact h5
    have aj:ac=none->c4=0:=fun e=>by subst e;exact own_nil aa
    have H4:ChIn w4 ao ca ts p ac c4 cs:=⟨HI.out.env.below B4.out,HI.out.layT.below B4.out,ak,HI.out.tree,HI.out.smallT,a0.out,by rw[ah.out];exact aF,HI.out.lenP,HI.out.capT,HI.out.noT,aj⟩;obtain⟨F,hF⟩:∃ F,faultL ts p cs=F:=⟨_,rfl⟩
    have a4:Hid (∀ W,Below w4.heap.size w4 W->Calls Tryz.prog 199 #[.agg #[.slice ao n ca,.string S,.slice ac m c4]] W fun r w'=>r=.returned (.int .i64 (F:Nat))/\Below W.heap.size W w'):=hid (fun W hW=>by
     have:=fault_any ao ca ts p ac c4 cs W (H4.below hW) S HS.out;rw[HN.out,ah.out,hF]at this
     exact this)
    have aC:Hid (∀ W,Below w4.heap.size w4 W->Calls Tryz.prog 200 #[.agg #[.slice ao n ca,.string S,.slice ac m c4]] W fun r w'=>∃ i j,Cut ts p i j/\AtPost (ts.take i++(cs++ts.drop j)) W r w'):=hid (fun W hW=>by
     have:=done_any ao ca ts p ac c4 cs W (H4.below hW) S HS.out;rw[HN.out,ah.out]at this
     exact this)
    rw[hF]at HF;obtain⟨w5,aw⟩:∃ w5,w4.alloc (.cells #[.slice ao n ca,.string S,.slice ac m c4] 237)=w5:=⟨_,rfl⟩;have ay:Below w4.heap.size w4 w5:=by rw[<- aw];exact(Below.refl _ _).alloc (Nat.le_refl _) _
    obtain⟨t0,t1,t2⟩:=box3 w4 (.slice ao n ca) (.string S) (.slice ac m c4) 237;rw[aw]at t0 t1 t2;have av:w4.heap.size<w5.heap.size:=by rw[<- aw];simp
    have ai:=hid ay
    have aG:Hid (∀ W,Below w5.heap.size w5 W->W.cell? ⟨w4.heap.size,0,none⟩=some (.slice ao n ca)/\W.cell? ⟨w4.heap.size,1,none⟩=some (.string S)/\W.cell? ⟨w4.heap.size,2,none⟩=some (.slice ac m c4)):=hid (fun W hW =>
     ⟨(hW.cell (p:=⟨w4.heap.size,0,none⟩) av).trans t0,(hW.cell (p:=⟨w4.heap.size,1,none⟩) av).trans t1,(hW.cell (p:=⟨w4.heap.size,2,none⟩) av).trans t2⟩)
    have am:=hid ((tree_iff ts).1 HI.out.tree);clear hb aa ak aj H4 hF ay;by_cases f0:(F:Int)=0
    ·have a9:((F:Int) != 0)=false:=by simp[f0]
     have ax:F=0:=by omega
     have ar:Hid (putL ts p v=(outL ts p v,0)):=hid (by rw[HF.out,if_pos ax,ax]);clear f0 ax HF
     repeat (first
      | (go_at_call 199;refine(a4.out _ ai.out).mono ?_;rintro r w6 ⟨rfl,hb⟩;simp only[];obtain⟨s0,s1,s2⟩:=aG.out w6 hb;have ap:=hid (Below.trans ai.out (hb.mono ai.out.size));clear hb)
      | (go_at_call 200;refine(aC.out _ ap.out).mono ?_;rintro r w7 ⟨i,j,al,u7,rfl,aa,hb⟩;simp only[];have aD:=hid aa;have aA:=hid al;have a7:=hid hb;clear hb al aa)
      | go_skip|go_guarded|go_step|go_upon)
     go_ret2;have au:=Below.trans B4.out (ap.out.mono B4.out.size);refine⟨u7,by rw[ar.out];rfl,?_,Below.trans au (a7.out.mono au.size)⟩;rw[ar.out];simp only;rw[aA.out.out am.out.path v,a8.out];exact owns_base aD.out _ au.size
    ·have a9:((F:Int) != 0)=true:=by simp;omega
     have ar:Hid (putL ts p v=([],F)):=hid (by rw[HF.out,if_neg (fun h=>f0 (by omega))]);clear f0 HF
     repeat (first
      | (go_at_call 199;refine OM.onB (a4.out _ ai.out) ai ?_;intro w6 ap;simp only[])
      | go_skip|go_guarded|go_step|go_upon)
     go_ret2;exact PutPost.nil ar.out rfl (Below.trans B4.out (ap.out.mono B4.out.size))
 ·have aE:((E:Int) != 0)=true:=by simp;omega
  have HF:=hid (HP.out.trans (if_pos (.inl (by cases ht:treeB ts with|false=>rfl|true=>exact absurd (ag.2 ht) e1))));clear ag e1 ab ad;go_enter Tryz.func164,Tryz.ntmps164
  repeat (first
   | (go_at_call 53;refine CC.out.mono ?_;rintro r w1 ⟨rfl,hb⟩;simp only[];have B1:=hid hb;clear hb)
   | go_skip|go_guarded|go_step|go_upon)
  go_ret2;exact PutPost.nil HF.out rfl B1.out
end TG
end Go.Proofs.YtkmcjededpamnaaGreatDoor