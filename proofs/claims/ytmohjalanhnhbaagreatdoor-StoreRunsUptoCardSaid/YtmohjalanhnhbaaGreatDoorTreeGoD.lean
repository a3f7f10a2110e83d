import Derived.Test.YtmohjalanhnhbaaGreatDoorMg7
import Derived.Test.YtmohjalanhnhbaaGreatDoorTreeRefA
set_option linter.all false
set_option maxRecDepth 100000
set_option maxHeartbeats 25600000
namespace Go.Proofs.YtmohjalanhnhbaaGreatDoor
open Go.RowKit Go.Lib Go.BigFrame
namespace TG
open OM TP TM TR
theorem out_len (ts:List Nd) (p:List UInt8) {a b:List Nd} (h:a.length=b.length):(outL ts p a).length=(outL ts p b).length:=by
 unfold outL
 simp only [List.length_append,List.length_map,h]
theorem bad_place (p:List UInt8) (v:List Nd):badP (v.map (placeN p))=!(v.all fun n=>NP.pathL (place p n.path)):=by
 unfold badP
 rw [List.any_map]
 induction v with
 | nil=>rfl
 | cons x r ih =>
  rw [List.any_cons,List.all_cons,ih,Bool.not_and]
  rfl
theorem put_fault {ts:List Nd} {p:List UInt8} {v:List Nd} (ht:treeB ts=true) (hv:rightV v=true) (hp:NP.pathL p=true) :
  putL ts p v=(if faultL ts p (v.map (placeN p))=0 then outL ts p v else [],faultL ts p (v.map (placeN p))):=by
 have e1:(outL ts p (v.map (placeN p))).length=(outL ts p v).length:=out_len ts p (by simp)
 have e2:(v.map (placeN p)≠[])↔v≠[]:=by simp
 have n1:¬ (treeB ts=false∨rightV v=false):=by rw [ht,hv];simp
 have n2:¬ NP.pathL p=false:=by rw [hp];simp
 by_cases a:v≠[]/\dirB ts (NP.parentL p)=false
 ·have f:faultL ts p (v.map (placeN p))=62:=by unfold faultL;rw [if_pos ⟨e2.2 a.1,a.2⟩]
  have g:putL ts p v=([],62):=by unfold putL;rw [if_neg n1,if_neg n2,if_pos a]
  rw [f,g];rfl
 ·have a2:¬ (v.map (placeN p)≠[]/\dirB ts (NP.parentL p)=false):=fun h=>a ⟨e2.1 h.1,h.2⟩
  cases hb:(v.all fun n=>NP.pathL (place p n.path)) with
  | false =>
   have f:faultL ts p (v.map (placeN p))=11:=by unfold faultL;rw [if_neg a2,bad_place,hb];rfl
   have g:putL ts p v=([],11):=by unfold putL;rw [if_neg n1,if_neg n2,if_neg a,hb];rfl
   rw [f,g];rfl
  | true =>
   by_cases c:1000<(outL ts p v).length
   ·have f:faultL ts p (v.map (placeN p))=32:=by unfold faultL;rw [if_neg a2,bad_place,hb,if_neg (by simp),e1,if_pos c]
    have g:putL ts p v=([],32):=by unfold putL;rw [if_neg n1,if_neg n2,if_neg a,hb,if_neg (by simp),if_pos c]
    rw [f,g];rfl
   ·have f:faultL ts p (v.map (placeN p))=0:=by unfold faultL;rw [if_neg a2,bad_place,hb,if_neg (by simp),e1,if_neg c]
    have g:putL ts p v=(outL ts p v,0):=by unfold putL;rw [if_neg n1,if_neg n2,if_neg a,hb,if_neg (by simp),if_neg c]
    rw [f,g];rfl
theorem own_nil {w:World} {base n c:Nat} {xs:List Value} (h:w.ownsRow base 45 4 (.slice none n c) n xs):c=0:=by
 rcases h.2 with ⟨e,_⟩|⟨g,cap,cur,e,_⟩
 ·simp at e;exact e.2
 ·simp at e
theorem small_place {p:List UInt8} {v:List Nd} (hp:NP.pathL p=true) (hv:rightV v=true) (hs:SmallG v):SmallG (v.map (placeN p)):=by
 intro n hn
 obtain⟨x,hx,rfl⟩:=List.mem_map.1 hn
 refine⟨?_,(hs x hx).2⟩
 have h1:=((path_iff p).1 hp).1
 have h2:x.path.length<=400:=by
  rcases ((val_iff v).1 hv).path x hx with e|e
  ·rw [e];simp
  ·exact ((path_iff _).1 e).1
 show (place p x.path).length<=_
 unfold place
 split
 ·omega
 ·rw [List.length_append,List.length_cons];omega
theorem put_any (ao:Option Addr) (ca:Nat) (ts:List Nd) (p:List UInt8) (bo:Option Addr) (cb:Nat) (v:List Nd) (w:World) (he:NF.Env w) (hlt:LayN w ao ts) (hlv:LayN w bo v) (hst:SmallG ts) (hsv:SmallG v)
  (l1:ts.length<=maxLen) (l2:v.length<=maxLen) (hca:ts.length<=ca) (hcb:v.length<=cb) (hp:p.length<=1048576) (hna:ao=none->ca=0) (hnb:bo=none->cb=0) :
  Calls Tryz.prog 164 #[.slice ao ts.length ca,txt p,.slice bo v.length cb] w (PutPost (putL ts p v) w):=by
 have cC:=check_any ao ca ts w he hlt hst l1 hca
 have cR:∀ W,Below w.heap.size w W->Calls Tryz.prog 123 #[.slice bo v.length cb] W fun r w'=>r=.returned (.bool (rightV v))/\Below W.heap.size W w':=fun W hW=>rightV_any bo cb v W (he.below hW) (hlv.below hW) hsv l2 hcb
 obtain⟨S,hS,hSd⟩:=txt_of p
 have cP:∀ W,Below w.heap.size w W->Calls Tryz.prog 60 #[.string S] W fun r w'=>r=.returned (.bool (NP.pathL p))/\Below W.heap.size W w':=fun W hW=>path_txt S p W (he.below hW) hSd hp
 have hE0:=checkG_zero ts
 have cF:treeB ts=true->rightV v=true->NP.pathL p=true->putL ts p v=(if faultL ts p (v.map (placeN p))=0 then outL ts p v else [],faultL ts p (v.map (placeN p))):=put_fault
 have cU:rightV v=true->∀ W,Below w.heap.size w W->Calls Tryz.prog 198 #[.string S,.slice bo v.length cb] W (AtPost (v.map (placeN p)) W):=fun hv W hW=>by
  have:=under_any bo cb v p W (hlv.below hW) hnb hsv (val_len hv) hp
  rw [hS,under_all hv] at this
  exact this
 obtain⟨n,hn⟩:∃ n,ts.length=n:=⟨_,rfl⟩
 obtain⟨m,hm⟩:∃ m,v.length=m:=⟨_,rfl⟩
 have HN:=Lib.hid hn
 have HM:=Lib.hid hm
 unfold maxLen at l1 l2
 rw [hn] at cC l1 hca ⊢
 rw [hm] at cR cU l2 hcb ⊢
 rw [hS]
 have hnz:(n:Int)<=9223372036854775807:=by omega
 have hmz:(m:Int)<=9223372036854775807:=by omega
 obtain⟨E,hE⟩:∃ E:Nat,checkG ts=E:=⟨_,rfl⟩
 obtain⟨bR,hbR⟩:∃ b,rightV v=b:=⟨_,rfl⟩
 obtain⟨bP,hbP⟩:∃ b,NP.pathL p=b:=⟨_,rfl⟩
 rw [hE] at cC hE0
 rw [hbR] at cR
 rw [hbP] at cP
 have HP:Hid (putL ts p v=if treeB ts=false∨bR=false then ([],60) else if bP=false then ([],11) else putL ts p v):=Lib.hid (by
  by_cases a:treeB ts=false∨bR=false
  ·rw [if_pos a];unfold putL;rw [hbR,if_pos a]
  ·rw [if_neg a]
   by_cases b:bP=false
   ·rw [if_pos b];unfold putL;rw [hbR,hbP,if_neg a,if_pos b]
   ·rw [if_neg b])
 have CC:=Lib.hid cC
 have CR:=Lib.hid cR
 have CP:=Lib.hid cP
 have HIn:Hid (ChIn w ao ca ts p none 0 []∨treeB ts=false):=Lib.hid (by
  cases ht:treeB ts with
  | false=>exact .inr rfl
  | true=>exact .inl ⟨he,hlt,LayN.nil _ _,ht,hst,(fun m hm=>by simp at hm),by simp,hp,by rw [hn];exact hca,hna,fun _=>rfl⟩)
 have HSm:Hid (SmallG v):=Lib.hid hsv
 have HS:=Lib.hid hS
 have CU:=Lib.hid cU
 have CFl:=Lib.hid cF
 clear cC cR cP hE hS hSd hn hm he hlt hlv hst hsv hp hna hnb cU cF
 by_cases e1:(E:Int)=0
 ·have hEb:((E:Int) != 0)=false:=by simp [e1]
  have ht:=hE0.1 e1
  cases bR with
  | false =>
   have HF:=Lib.hid (HP.out.trans (if_pos (.inr rfl)))
   clear hE0 e1 hbR hbP
   go_enter Tryz.func164,Tryz.ntmps164
   repeat (first
    | (go_at_call 53;refine CC.out.mono ?_;rintro r w1 ⟨rfl,hb⟩;simp only [];have B1:=Lib.hid hb;clear hb)
    | (go_at_call 123;refine (CR.out _ B1.out).mono ?_;rintro r w2 ⟨rfl,hb⟩;simp only [];have B2:=Lib.hid (Below.trans B1.out (hb.mono B1.out.size));clear hb)
    | go_skip|go_guarded|go_step|go_upon)
   go_ret2
   exact PutPost.nil HF.out rfl B2.out
  | true =>
   cases bP with
   | false =>
    have HF:=Lib.hid ((HP.out.trans (if_neg (by rw [ht];simp))).trans (if_pos rfl))
    clear hE0 e1 hbR hbP
    go_enter Tryz.func164,Tryz.ntmps164
    repeat (first
     | (go_at_call 53;refine CC.out.mono ?_;rintro r w1 ⟨rfl,hb⟩;simp only [];have B1:=Lib.hid hb;clear hb)
     | (go_at_call 123;refine (CR.out _ B1.out).mono ?_;rintro r w2 ⟨rfl,hb⟩;simp only [];have B2:=Lib.hid (Below.trans B1.out (hb.mono B1.out.size));clear hb)
     | (go_at_call 60;refine (CP.out _ B2.out).mono ?_;rintro r w3 ⟨rfl,hb⟩;simp only [];have B3:=Lib.hid (Below.trans B2.out (hb.mono B2.out.size));clear hb)
     | go_skip|go_guarded|go_step|go_upon)
    go_ret2
    exact PutPost.nil HF.out rfl B3.out
   | true =>
    have HF:=Lib.hid (CFl.out ht hbR hbP)
    have CU2:=Lib.hid (CU.out hbR)
    have hmv:m<=1000:=by have:=val_len hbR;have:=HM.out;omega
    have HSp:=Lib.hid (small_place hbP hbR HSm.out)
    obtain⟨cs,hcs⟩:∃ cs,v.map (placeN p)=cs:=⟨_,rfl⟩
    have HCs:=Lib.hid hcs
    have hcl:cs.length=m:=by rw [<- hcs,List.length_map,HM.out]
    have HCl:=Lib.hid hcl
    have HI:=Lib.hid (HIn.out.resolve_right (by rw [ht];simp))
    rw [hcs] at CU2 HF HSp
    clear hE0 e1 hbR hbP ht hcs HP CFl CU HIn hcl
    go_enter Tryz.func164,Tryz.ntmps164
    repeat (first
     | (go_at_call 53;refine CC.out.mono ?_;rintro r w1 ⟨rfl,hb⟩;simp only [];have B1:=Lib.hid hb;clear hb)
     | (go_at_call 123;refine (CR.out _ B1.out).mono ?_;rintro r w2 ⟨rfl,hb⟩;simp only [];have B2:=Lib.hid (Below.trans B1.out (hb.mono B1.out.size));clear hb)
     | (go_at_call 60;refine (CP.out _ B2.out).mono ?_;rintro r w3 ⟨rfl,hb⟩;simp only [];have B3:=Lib.hid (Below.trans B2.out (hb.mono B2.out.size));clear hb)
     | (go_at_call 198;fail)
     | go_skip|go_guarded|go_step|go_upon)
    refine (CU2.out _ B3.out).mono ?_
    rintro r w4 ⟨u,rfl,hown,hb⟩
    simp only []
    have B4:=Lib.hid (Below.trans B3.out (hb.mono B3.out.size))
    rw [HCl.out] at hown
    obtain⟨bo4,c4,rfl,_⟩:=owns_view hown
    have hlay:LayN w4 bo4 cs:=by
     have h1:=hown
     rw [<- HCl.out] at h1
     obtain⟨ao5,c5,e5,h5⟩:=lay_own h1
     simp only [Value.slice.injEq,HCl.out,true_and] at e5
     rw [e5.1]
     exact h5
    have hnil:bo4=none->c4=0:=fun e=>by subst e;exact own_nil hown
    have H4:ChIn w4 ao ca ts p bo4 c4 cs:=⟨HI.out.env.below B4.out,HI.out.layT.below B4.out,hlay,HI.out.tree,HI.out.smallT,HSp.out,by rw [HCl.out];exact hmv,HI.out.lenP,HI.out.capT,HI.out.noT,hnil⟩
    obtain⟨F,hF⟩:∃ F,faultL ts p cs=F:=⟨_,rfl⟩
    have CFa:Hid (∀ W,Below w4.heap.size w4 W->Calls Tryz.prog 199 #[.agg #[.slice ao n ca,.string S,.slice bo4 m c4]] W fun r w'=>r=.returned (.int .i64 (F:Nat))/\Below W.heap.size W w'):=Lib.hid (fun W hW=>by
     have:=fault_any ao ca ts p bo4 c4 cs W (H4.below hW) S HS.out
     rw [HN.out,HCl.out,hF] at this
     exact this)
    have CDo:Hid (∀ W,Below w4.heap.size w4 W->Calls Tryz.prog 200 #[.agg #[.slice ao n ca,.string S,.slice bo4 m c4]] W fun r w'=>∃ i j,Cut ts p i j/\AtPost (ts.take i++(cs++ts.drop j)) W r w'):=Lib.hid (fun W hW=>by
     have:=done_any ao ca ts p bo4 c4 cs W (H4.below hW) S HS.out
     rw [HN.out,HCl.out] at this
     exact this)
    rw [hF] at HF
    obtain⟨w5,hw5⟩:∃ w5,w4.alloc (.cells #[.slice ao n ca,.string S,.slice bo4 m c4] 237)=w5:=⟨_,rfl⟩
    have h45:Below w4.heap.size w4 w5:=by rw [<- hw5];exact (Below.refl _ _).alloc (Nat.le_refl _) _
    obtain⟨t0,t1,t2⟩:=box3 w4 (.slice ao n ca) (.string S) (.slice bo4 m c4) 237
    rw [hw5] at t0 t1 t2
    have hz5:w4.heap.size<w5.heap.size:=by rw [<- hw5];simp
    have B45:=Lib.hid h45
    have HBx:Hid (∀ W,Below w5.heap.size w5 W->W.cell? ⟨w4.heap.size,0,none⟩=some (.slice ao n ca)/\W.cell? ⟨w4.heap.size,1,none⟩=some (.string S)/\W.cell? ⟨w4.heap.size,2,none⟩=some (.slice bo4 m c4)):=Lib.hid (fun W hW =>
     ⟨(hW.cell (p:=⟨w4.heap.size,0,none⟩) hz5).trans t0,(hW.cell (p:=⟨w4.heap.size,1,none⟩) hz5).trans t1,(hW.cell (p:=⟨w4.heap.size,2,none⟩) hz5).trans t2⟩)
    have HTree:=Lib.hid ((tree_iff ts).1 HI.out.tree)
    clear hb hown hlay hnil H4 hF h45
    by_cases f0:(F:Int)=0
    ·have hFb:((F:Int) != 0)=false:=by simp [f0]
     have hF0:F=0:=by omega
     have HF2:Hid (putL ts p v=(outL ts p v,0)):=Lib.hid (by rw [HF.out,if_pos hF0,hF0])
     clear f0 hF0 HF
     repeat (first
      | (go_at_call 199;refine (CFa.out _ B45.out).mono ?_;rintro r w6 ⟨rfl,hb⟩;simp only [];obtain⟨s0,s1,s2⟩:=HBx.out w6 hb;have B46:=Lib.hid (Below.trans B45.out (hb.mono B45.out.size));clear hb)
      | (go_at_call 200;refine (CDo.out _ B46.out).mono ?_;rintro r w7 ⟨i,j,hcut,u7,rfl,hown,hb⟩;simp only [];have HO7:=Lib.hid hown;have HC7:=Lib.hid hcut;have B67:=Lib.hid hb;clear hb hcut hown)
      | go_skip|go_guarded|go_step|go_upon)
     go_ret2
     have hbb:=Below.trans B4.out (B46.out.mono B4.out.size)
     refine⟨u7,by rw [HF2.out];rfl,?_,Below.trans hbb (B67.out.mono hbb.size)⟩
     rw [HF2.out]
     simp only
     rw [HC7.out.out HTree.out.path v,HCs.out]
     exact owns_base HO7.out _ hbb.size
    ·have hFb:((F:Int) != 0)=true:=by simp;omega
     have HF2:Hid (putL ts p v=([],F)):=Lib.hid (by rw [HF.out,if_neg (fun h=>f0 (by omega))])
     clear f0 HF
     repeat (first
      | (go_at_call 199;refine (CFa.out _ B45.out).mono ?_;rintro r w6 ⟨rfl,hb⟩;simp only [];have B46:=Lib.hid (Below.trans B45.out (hb.mono B45.out.size));clear hb)
      | go_skip|go_guarded|go_step|go_upon)
     go_ret2
     exact PutPost.nil HF2.out rfl (Below.trans B4.out (B46.out.mono B4.out.size))
 ·have hEb:((E:Int) != 0)=true:=by simp;omega
  have HF:=Lib.hid (HP.out.trans (if_pos (.inl (by cases ht:treeB ts with|false=>rfl|true=>exact absurd (hE0.2 ht) e1))))
  clear hE0 e1 hbR hbP
  go_enter Tryz.func164,Tryz.ntmps164
  repeat (first
   | (go_at_call 53;refine CC.out.mono ?_;rintro r w1 ⟨rfl,hb⟩;simp only [];have B1:=Lib.hid hb;clear hb)
   | go_skip|go_guarded|go_step|go_upon)
  go_ret2
  exact PutPost.nil HF.out rfl B1.out
end TG
end Go.Proofs.YtmohjalanhnhbaaGreatDoor