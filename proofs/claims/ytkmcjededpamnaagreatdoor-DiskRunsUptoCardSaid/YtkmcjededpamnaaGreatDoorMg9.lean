import Derived.Test.YtkmcjededpamnaaGreatDoorMg8
import Derived.Test.YtkmcjededpamnaaGreatDoorMg3
set_option linter.all false
set_option maxRecDepth 100000
set_option maxHeartbeats 0
namespace Go.Proofs.YtkmcjededpamnaaGreatDoor
open List(getElem?_eq_getElem drop_succ_cons drop_zero mem_append_left mem_append_right take_succ_cons take_zero)
section
open Go.RowKit Go.Lib Go.BigFrame
namespace DG
open OM TP TM DP DM TG TR FP
theorem on_any(w:World)(p:Nat)(b:Bool)(a0 a1 a2 a4 a5 a6 a7 a8:Value)(hr:w.heap[p]?=some (.cells #[a0,a1,a2,.bool b,a4,a5,a6,a7,a8] 122 (0,0))) :
  Calls Tryz.prog 13 #[.pointer (some ⟨p,0,none⟩)] w fun r w'=>r=.returned (.bool b)/\w=w':=by
 obtain⟨-,-,-,c3,-,-,-,-,-,-⟩:=row9 hr;clear hr;go_enter Tryz.func13,Tryz.ntmps13;repeat (first|go_skip|go_guarded|go_step|go_upon)
 go_ret;exact⟨rfl,rfl⟩
theorem on_nil(w:World) :
  Calls Tryz.prog 13 #[.pointer none] w fun r w'=>r=.returned (.bool false)/\w=w':=by
 go_enter Tryz.func13,Tryz.ntmps13;repeat (first|go_skip|go_guarded|go_step|go_upon)
 go_ret;exact⟨rfl,rfl⟩
theorem steps_any(w:World)(p:Nat)(ao:Option Addr)(n c:Nat)(a0 a1 a2 a3 a4 a5 a6 a7:Value)(hr:w.heap[p]?=some (.cells #[a0,a1,a2,a3,a4,a5,a6,a7,.slice ao n c] 122 (0,0))) :
  Calls Tryz.prog 14 #[.pointer (some ⟨p,0,none⟩)] w fun r w'=>r=.returned (.int .i64 n)/\w=w':=by
 obtain⟨-,-,-,-,-,-,-,-,c8,-⟩:=row9 hr;clear hr;go_enter Tryz.func14,Tryz.ntmps14;repeat (first|go_skip|go_guarded|go_step|go_upon)
 go_ret;exact⟨rfl,rfl⟩
end DG
end
section
open Go.RowKit Go.Lib Go.BigFrame
namespace DG
open OM TP TM DP DM TG TR FP
theorem infoDid:(Tryz.prog.info? 75).map (fun i=>(i.zero,i.size,i.bytes))=some (some (.agg #[.string ⟨#[]⟩,.string ⟨#[]⟩,.string ⟨#[]⟩]),3,48):=by kernel_rfl
theorem edits_at:∀(es:List Edit) (vs:List Ev) (k:Nat) (e:Edit) (v:Ev),es[k]?=some e->vs[k]?=some v ->
  (editsC es vs)[k*3]?=some (.int .i64 e.at_)/\(editsC es vs)[k*3+1]?=some (txt e.path)/\(editsC es vs)[k*3+2]?=some (.slice v.a e.value.length v.c)
 | [],_,k,n,_,h,_=>by simp at h
 | _::_,[],k,n,_,_,h=>by simp at h
 | x::ts,y::us,0,n,m,h,h2=>by
  simp at h h2;subst h h2;exact⟨rfl,rfl,rfl⟩
 | x::ts,y::us,k+1,n,m,h,h2=>by
  rw[List.getElem?_cons_succ]at h h2;have ih:=edits_at ts us k n m h h2
  have e:∀ j,(editsC (x::ts) (y::us))[(k+1)*3+j]?=(editsC ts us)[k*3+j]?:=fun j=>by
   show(editV (x,y)++editsC ts us)[_]?=_;rw[List.getElem?_append_right (by show 3<=_;omega)];congr 1;show _-3=_;omega
  exact⟨(e 0).trans ih.1,(e 1).trans ih.2.1,(e 2).trans ih.2.2⟩
theorem wide_own{W:World}{b:Nat}{a:Option Addr}{c:Nat}{l:List Nd}(h:W.ownsRow b 45 4 (.slice a l.length c) l.length (nodesC l))(hl:TW.LongG l/\l.length<=maxLen):TW.Wide W a c l:=by
 rcases h.2 with ⟨e1,e2⟩|⟨g,cp,fe,e1,e2,e3,e4,e5,e6,e7⟩
 ·injection e1 with e1 _ e3;subst e1 e3;have dw:l=[]:=List.eq_nil_of_length_eq_zero (by exact e2);rw[dw];exact TW.Wide.nil W
 ·obtain⟨ec,c',cV,eB⟩:=lay_own h;injection cV with cV _ _;injection e1 with e1 _ e3;refine⟨by rw[cV];exact eB,(fun e=>by rw[e]at e1;cases e1),by rw[e3];exact e4,hl.1,hl.2⟩
def EdsAt(S:Nat->Prop)(P:Nat)(w:World)(X:Dk)(S1:Nat->Prop)(wr:World):Prop :=
 Out (fun k=>Nm S w k\/k=P) w wr/\(∀ k,S1 k->S k\/w.heap.size<=k)/\Disk S1 wr P X
theorem EdsAt.edit{S S1:Nat->Prop}{P:Nat}{w wr w6:World}{X X':Dk}(h:EdsAt S P w X S1 wr)(hd:DoesN S1 P wr X' w6):∃ S2,EdsAt S P w X' S2 w6:=by
 obtain⟨ho,hs,_⟩:=h;obtain⟨bM,S2,b7,bP⟩:=hd;have hz:=ho.size;refine⟨S2,ho.then bM (fun j hj hT=>?_),fun k hk=>?_,bP⟩
 ·rcases hT with ⟨hT,eT⟩|hT
  ·rcases hs j hT with h1|h1
   ·by_cases hjp:j=P
    ·exact .inr hjp
    ·by_cases hn:Nm S w j
     ·exact .inl hn
     ·have hb:=(ho.block j hj (fun e=>e.elim hn hjp)).symm;exact .inl ⟨h1,eT.imp (·.same hb) (·.same hb)⟩
   ·omega
  ·exact .inr hT
 ·rcases b7 k hk with h1|h1
  ·exact hs k h1
  ·exact .inr (by omega)
theorem EdsAt.below{S S1:Nat->Prop}{P:Nat}{w wr w6:World}{X:Dk}(h:EdsAt S P w X S1 wr)(hb:Below wr.heap.size wr w6):EdsAt S P w X S1 w6:=by
 obtain⟨ho,hs,adr,hd⟩:=h;exact⟨ho.thenBelow hb,hs,adr,hd.below hb⟩
def EdsInv(S:Nat->Prop)(P:Nat)(D1:Dk)(T:Nat)(es:List Edit)(n:Nat)(w:World)(s27:Value)(wr:World):Prop :=
 ∃(k:Nat) (S1:Nat->Prop),s27=.int .i64 k/\k<=n/\EdsAt S P w (editsD D1 T (es.take k)) S1 wr
theorem did_new(W:World)(g:Nat)(hg:g=W.heap.size)(c:Did)(a b d:Value)(ha:txt c.call=a)(hb:txt c.path=b)(hd:txt c.to=d)(t:TypeId) :
  ∀(j:Nat) (u:Value),(didC c)[j]?=some u->(W.alloc (.cells #[a,b,d] t)).cell? ((⟨g,0,none⟩:Addr).add j)=some u:=by
 subst hg ha hb hd;obtain⟨c0,c1,c2,_⟩:=row3 (heap_alloc_new W (.cells #[txt c.call,txt c.path,txt c.to] t));intro j u hu;have e1:(⟨W.heap.size,0,none⟩:Addr).add j=⟨W.heap.size,j,none⟩:=by simp[Addr.add];omega
 rw[e1]
 match j with
 | 0=>exact c0.trans hu
 | 1=>exact c1.trans hu
 | 2=>exact c2.trans hu
 | j+3=>cases hu
theorem did_one(c:Did):∀ u∈didC c,u.oneCell'=true:=by
 obtain⟨a,ha,_⟩:=txt_of c.call;obtain⟨b,hb,_⟩:=txt_of c.path;obtain⟨d,hd,_⟩:=txt_of c.to;unfold didC;rw[ha,hb,hd];intro u hu;simp at hu;rcases hu with rfl|rfl|rfl<;>rfl
theorem EdsAt.does{S S1:Nat->Prop}{P:Nat}{w wr w6:World}{X X':Dk}(h:EdsAt S P w X S1 wr){S2:Nat->Prop}(ho:Out (fun k=>S1 k\/k=P) wr w6)(hs:∀ k,S2 k->S1 k\/wr.heap.size<=k)(hd:Disk S2 w6 P X'):Does S P w.heap.size w X' w6:=by
 obtain⟨h1,h2,_⟩:=h;have hz:=h1.size;refine⟨(h1.mono (fun k _ hk=>hk.imp (·.1) id)).then ho (fun j hj hT=>?_),S2,fun k hk=>?_,hd⟩
 ·rcases hT with hT|hT
  ·rcases h2 j hT with h3|h3
   ·exact .inl h3
   ·omega
  ·exact .inr hT
 ·rcases hs k hk with h3|h3
  ·exact h2 k h3
  ·exact .inr (by omega)
theorem step_any(S:Nat->Prop)(w:World)(P m:Nat)(D:Dk)(c:Did)(h:Disk S w P D)(he:NF.Env w)(hH:Hi S P)(hm:Num m D)(hm2:m<=100000) :
  Calls Tryz.prog 56 #[.pointer (some ⟨P,0,none⟩),txt c.call,txt c.path,txt c.to] w fun r w'=>r=.returned (.int .i64 (stepD D c).2)/\Does S P w.heap.size w (stepD D c).1 w':=by
 obtain⟨i0,eG,cJ,bJ,bG⟩:=info_parts infoDid;obtain⟨adr,x,h⟩:=h;have hr:=h.row;unfold diskC at hr;have bf:=(Array.getElem?_eq_some_iff.1 hr).1;obtain⟨Y1,cL,_⟩:=txt_of c.call;obtain⟨Y2,cM,_⟩:=txt_of c.path;obtain⟨Y3,cF,_⟩:=txt_of c.to;rw[cL,cM,cF];have HX:=hid h;have HE:=hid he;have HH:=hid hH;have fv:=hid cL;have fz:=hid cM;have fm:=hid cF;obtain⟨Z,hZ⟩:∃ Z,stepD D c=Z:=⟨_,rfl⟩;have HZ:=hid hZ;rw[hZ];have CO:=hid (on_any w P _ _ _ _ _ _ _ _ _ hr)
 cases hoff:D.off with
 | true =>
  rw[hoff]at CO;have aK:Hid (Z=(D,75)):=hid (by rw[<- HZ.out];unfold stepD;rw[if_pos hoff]);clear h he hH hm cL cM cF hZ hr hoff;go_enter Tryz.func56,Tryz.ntmps56;repeat (first|(go_at_call 13;refine CO.out.mono ?_;rintro r w2 ⟨rfl,rfl⟩;simp only[])|go_skip|go_guarded|go_step|go_upon)
  go_ret;rw[aK.out];exact⟨rfl,Out.refl _ _,S,fun k hk=>.inl hk,adr,x,HX.out⟩
 | false =>
  obtain⟨ae,ce,cT,dF⟩:=owns_view h.rest.edits;obtain⟨es,b5⟩:∃ es,D.edits=es:=⟨_,rfl⟩;obtain⟨n,hn⟩:∃ n,es.length=n:=⟨_,rfl⟩;obtain⟨T,hT⟩:∃ n,D.trace.length=n:=⟨_,rfl⟩;obtain⟨cz,bl⟩:∃ n,D.clock=n:=⟨_,rfl⟩;obtain⟨c1,ek⟩:∃ n,cz+1=n:=⟨_,rfl⟩;obtain⟨D1,cb⟩:∃ X:Dk,{ D with clock:=c1 }=X:=⟨_,rfl⟩
  have f6:IntKind.i64.wrap ((cz:Int)+1)=(c1:Int):=by
   rw[IntKind.wrap_i64];have:=hm.clock;omega
  rw[hoff]at CO;rw[cT,bl,hoff,b5,hn]at hr;rw[b5,hn]at dF
  have dM:Z=if(fateD (begunD D c)).what=3 then(crashD (begunD D c) (fateD (begunD D c)).keep (fateD (begunD D c)).torn,75)else if(fateD (begunD D c)).what=1 then(begunD D c,70)else(begunD D c,0):=by
   rw[<- hZ];unfold stepD;rw[if_neg (by rw[hoff];exact Bool.false_ne_true)]
  have eQ:=hid dM
  have HB:Hid (begunD D c={ editsD D1 T es with trace:=(editsD D1 T es).trace++[c] }):=hid (by
   unfold begunD
   rw[<- cb,← ek,← bl,hT,b5])
  have ej:Hid ((editsD D1 T es).trace.length=T):=hid (by
   rw[(edits_same D1 T es).2.1,← cb]
   exact hT)
  have e8:Hid (0<n->∃ g,ae=some ⟨g,0,none⟩/\g<w.heap.size/\∀ wr,Out (fun k=>Nm S w k\/k=P) w wr->∀ j,j<n*3->wr.cell? ⟨g,j,none⟩=(editsC es x.evs)[j]?):=hid (fun h0=>by
   obtain⟨g,h1,h2,_,h3⟩:=dF h0;refine⟨g,h1,h2,fun wr ho j hj=>(ho.cell (p:=⟨g,j,none⟩) h2 ?_).trans (h3 j hj)⟩;have hg:x.ve.ownBlock=some g:=by rw[cT,h1];rfl
   have ht:=own_type h.rest.edits g hg;rintro (⟨_,h4|h4⟩|h4)
   ·exact ht.ne h4 (by decide) rfl
   ·exact ht.ne h4 (by decide) rfl
   ·exact h.np (h4 ▸ h.rest.ein g hg))
  have cy:Hid (∀(k:Nat) (e:Edit),es[k]?=some e->∃ v:Ev,x.evs[k]?=some v/\∀ wr,Out (fun k=>Nm S w k\/k=P) w wr->TW.Wide wr v.a v.c e.value/\e.path.length<=maxLen):=hid (fun k e hk=>by
   have aU:=h.rest.elen;have ba:=(List.getElem?_eq_some_iff.1 hk).1;rw[b5]at aU;refine⟨x.evs[k]'(by omega),getElem?_eq_getElem _,fun wr ho=>?_⟩;have dS:e∈D.edits:=by rw[b5];exact List.mem_of_getElem? hk
   obtain⟨h1,h2⟩:=h.rest.vals k e _ (by rw[b5];exact hk) (getElem?_eq_getElem (by omega));refine⟨wide_own (own_same h1 fun g hg=>?_) (hm.long e dS),hm.path e dS⟩;have ht:=own_type h1 g hg
   have dT:S g:=by
    cases ha:(x.evs[k]'(by omega)).a with
    | none=>rw[ha]at hg;cases hg
    | some a =>
     rw[ha]at hg;injection hg with hg;rw[<- hg];exact h2 a ha
   refine ho.block g (h.lt g dT) ?_;rintro (⟨_,h4|h4⟩|h4)
   ·exact ht.ne h4 (by decide) rfl
   ·exact ht.ne h4 (by decide) rfl
   ·exact h.np (h4 ▸ dT))
  have eE:Hid (∀ k,k<=n->(editsD D1 T (es.take k)).inos.length<=2305843009213693952/\(editsD D1 T (es.take k)).later.length<=549755813888):=hid (fun k hk=>by
   obtain⟨_,_,_,_,_,h6,h7⟩:=edits_same D1 T (es.take k);have a1:=hm.later;have a2:=hm.inos;have a3:=hm.edits;rw[b5,hn]at a3;have b1:D1.later=D.later:=by rw[<- cb]
   have b2:D1.inos=D.inos:=by rw[<- cb]
   rw[List.length_take]at h6 h7;rw[b1]at h6;rw[b2]at h7;have ba:m*2097152<=100000*2097152:=Nat.mul_le_mul_right _ hm2;have aO:m*2147483648<=100000*2147483648:=Nat.mul_le_mul_right _ hm2
   constructor<;>omega)
  have HN:Hid (es.length=n):=hid hn;have f4:n<=1048576:=by have:=hm.edits;rw[b5,hn]at this;exact this
  have f1:T<=1000000:=by have:=hm.trace;omega
  have D0:Hid (EdsAt S P w (editsD D1 T (es.take 0)) S (w.setCell ⟨P,5,none⟩ (.int .i64 (c1:Nat)))):=hid (by
   rw[edits_zero,← cb]
   exact⟨(Out.refl _ w).setCell (p:=⟨P,5,none⟩) (fun _=>.inr rfl) _,fun k hk=>.inl hk,adr,x,diskX_clock h c1⟩)
  have bb:=row_set (j:=5) hr (.int .i64 (c1:Nat));obtain⟨-,-,-,-,-,d5,-,-,-,df⟩:=row9 hr;have R1:Hid ((w.setCell ⟨P,5,none⟩ (.int .i64 (c1:Nat))).heap[P]?=some (.cells #[x.vn,x.vs,x.vc,.bool (!false),.int .i64 (D.inos.length:Nat),.int .i64 (c1:Nat),x.vf,.slice ae n ce,x.vt] 122 (0,0))):=hid bb;obtain⟨-,-,-,-,-,-,-,q7,-,-⟩:=row9 R1.out;clear h he hH hm cL cM cF hZ hr hoff dM dF cT b5 hn hT bl ek cb bb;go_enter Tryz.func56,Tryz.ntmps56;repeat (first|(go_at_call 13;refine CO.out.mono ?_;rintro r w2 ⟨rfl,rfl⟩;simp only[])|go_skip|go_guarded|go_step|go_upon)
  go_loopw [27] (fun s27 wr=>EdsInv S P D1 T es n w s27 wr) (fun s27 _=>n-(RowKit.intOf s27).toNat)
  case atStart=>exact⟨0,S,rfl,Nat.zero_le _,D0.out⟩
  case round =>
   obtain⟨k,S1,rfl,hk,aR⟩:=hrel;have eL:=hid aR;by_cases bC:k<n
   ·have db:(k:Int)<n:=by omega
    obtain⟨e,cH⟩:∃ e,es[k]?=some e:=⟨es[k]'(by rw[HN.out];exact bC),getElem?_eq_getElem _⟩;obtain⟨g,rfl,hg,hc⟩:=e8.out (by omega);obtain⟨v,hv,hw⟩:=cy.out k e cH;obtain⟨y0,y1,y2⟩:=edits_at es x.evs k e v cH hv;obtain⟨bW,dW⟩:=hw wr aR.1;have e0:=(hc wr aR.1 _ (by omega)).trans y0;have e1:=(hc wr aR.1 _ (by omega)).trans y1;have e2:=(hc wr aR.1 _ (by omega)).trans y2;obtain⟨ea,ep,ev⟩:=e;obtain⟨va,vc⟩:=v;simp only at e0 e1 e2 bW dW;obtain⟨Y,hY,_⟩:=txt_of ep;obtain⟨ln,dg⟩:∃ n,ev.length=n:=⟨_,rfl⟩;rw[hY]at e1;rw[dg]at e2;obtain⟨aT,x1,h1⟩:=aR.2.2;obtain⟨X,hX⟩:∃ X,editsD D1 T (es.take k)=X:=⟨_,rfl⟩;obtain⟨ef,dI,aM,_⟩:=owns_view h1.rest.trace
    have cA:(editsD D1 T (es.take k)).trace.length=T:=by
     rw[(edits_same D1 T (es.take k)).2.1,← (edits_same D1 T es).2.1];exact ej.out
    rw[cA]at aM;have bb:=h1.row;unfold diskC at bb;rw[aM]at bb;obtain⟨dY,dO⟩:=eE.out k hk;have dG:editsD D1 T (es.take (k+1))=if ea=(T:Int)then editD X ep ev else X:=by rw[edits_succ D1 T cH,hX]
    rw[hX]at h1 dY dO aR;have HD:Hid (DiskA S1 wr P X aT []):=hid ⟨x1,h1⟩;have aV:=hid aR;have HS:=hid dG;have HW:=hid bW;obtain⟨-,-,-,-,-,-,-,-,d8,-⟩:=row9 bb;have RV:Hid ((wr.alloc (.cells #[.int .i64 ea,.string Y,.slice va ln vc] 86)).heap[wr.heap.size]?=some (.cells #[.int .i64 ea,.string Y,.slice va ln vc] 86 (0,0))):=hid (heap_alloc_new wr _);have z0:=cell_regrown (row3 RV.out).1;have z8:=cell_regrown (cell?_alloc_some (.cells #[.int .i64 ea,.string Y,.slice va ln vc] 86) d8);have f9:=aR.1.size
    have CE:Hid (∀ w5,Below wr.heap.size wr w5->Calls Tryz.prog 117 #[.pointer (some ⟨P,0,none⟩),.string Y,.slice va ln vc] w5 fun r w'=>r=.returned (.tuple #[])/\DoesN S1 P w5 (editD X ep ev) w' ):=hid (fun w5 bZ=>by
     have:=edit_any S1 w5 P X aT ep va vc ev (HD.out.below bZ) (env_out HE.out (aV.out.1.thenBelow bZ) (fun k hk=>by rcases hk with hk|hk;exact HH.out.1 k hk.1;exact hk ▸ HH.out.2)) (HH.out.more aV.out.2.1 (env_size HE.out)) (HW.out.below bZ) dW dY dO;rw[hY,dg]at this
     exact this)
    clear hc cH hv hw y0 y1 y2 bW hY dg h1 bb aM cA aR dG hX d8 bC;by_cases hea:ea=(T:Int)
    ·have hq:(ea==(T:Int))=true:=by rw[hea];exact beq_self_eq_true _
     have d2:Hid (ea=(T:Int)):=hid hea;clear hea;repeat (first|go_skip|go_guarded|go_step|go_upon)
     with_reducible refine wp_region_quiet_below (by kernel_rfl) (by kernel_rfl) ?_
     repeat (go_big_quiet_step (fail))
     refine wpQuiet_nil ?_;intro _ hw';obtain⟨⟨dq,au⟩,ak⟩:=hw';subst ak;have cc:=below_regrown (wr.alloc (.cells #[.int .i64 ea,.string Y,.slice va ln vc] 86)) dq au;have W5:=hid (Below.trans ((Below.refl wr.heap.size wr).alloc (Nat.le_refl _) (.cells #[.int .i64 ea,.string Y,.slice va ln vc] 86)) (cc.mono (by simp)));have R5:=hid ((cc.block wr.heap.size (by simp)).trans RV.out);clear z0 z8 cc;generalize Go.Sort.grow (redrawn (wr.alloc (.cells #[.int .i64 ea,.string Y,.slice va ln vc] 86)) dq) au=w5 at W5 R5 ⊢;obtain⟨q0,q1,q2,-⟩:=row3 R5.out;repeat (first|go_skip|go_guarded|go_step|go_upon)
     refine(CE.out w5 W5.out).mono ?_;rintro r w6 ⟨rfl,dR⟩;simp only[];obtain⟨S2,h2⟩:=(aV.out.below W5.out).edit dR;have H2:=hid h2;clear dR h2;repeat (first|go_skip|go_guarded|go_step|go_upon)
     exact⟨⟨k+1,S2,by go_num,by omega,by rw[HS.out,if_pos d2.out];exact H2.out⟩,by simp[RowKit.intOf];omega⟩
    ·have hq:(ea==(T:Int))=false:=by simpa using hea
     have d2:Hid (¬ ea=(T:Int)):=hid hea;clear hea;repeat (first|go_skip|go_guarded|go_step|go_upon)
     with_reducible refine wp_region_quiet_below (by kernel_rfl) (by kernel_rfl) ?_
     repeat (go_big_quiet_step (fail))
     refine wpQuiet_nil ?_;intro _ hw';obtain⟨⟨dq,au⟩,ak⟩:=hw';subst ak;have cc:=below_regrown (wr.alloc (.cells #[.int .i64 ea,.string Y,.slice va ln vc] 86)) dq au;have W5:=hid (Below.trans ((Below.refl wr.heap.size wr).alloc (Nat.le_refl _) (.cells #[.int .i64 ea,.string Y,.slice va ln vc] 86)) (cc.mono (by simp)));clear z0 z8 cc;generalize Go.Sort.grow (redrawn (wr.alloc (.cells #[.int .i64 ea,.string Y,.slice va ln vc] 86)) dq) au=w5 at W5 ⊢;repeat (first|go_skip|go_guarded|go_step|go_upon)
     exact⟨⟨k+1,S1,by go_num,by omega,by rw[HS.out,if_neg d2.out];exact aV.out.below W5.out⟩,by simp[RowKit.intOf];omega⟩
   ·have db:¬(k:Int)<n:=by omega
    have dP:k=n:=by omega
    rw[dP,← HN.out,List.take_length]at aR;obtain⟨E,hE⟩:∃ E,editsD D1 T es=E:=⟨_,rfl⟩;have cN:E.trace.length=T:=by rw[<- hE];exact ej.out
    have eb:=HB.out;have co:=eQ.out;rw[eb]at co;rw[hE]at aR co;obtain⟨B,hB⟩:∃ B:Dk,{ E with trace:=E.trace++[c] }=B:=⟨_,rfl⟩;rw[hB]at co;obtain⟨aT,x1,h1⟩:=aR.2.2;obtain⟨ef,dI,aM,_⟩:=owns_view h1.rest.trace;rw[cN]at aM;have bb:=h1.row;unfold diskC at bb;rw[aM]at bb;have bO:=h1.rest.trace;rw[cN]at bO
    have dr:Hid (∃ v' w',(Builtin.append_ #[39,39] 39 #[.slice ef T dI,.slice (some ⟨wr.heap.size,0,none⟩) 1 1]).run Tryz.prog (wr.alloc (.cells #[.string Y1,.string Y2,.string Y3] 75))=.ok v' w' /\
      w'.ownsRow 0 75 3 v' (T+1) (didsC E.trace++didC c)/\(wr.alloc (.cells #[.string Y1,.string Y2,.string Y3] 75)).grownBy w' x1.vt.ownBlock/\(v'.ownBlock=x1.vt.ownBlock\/v'.ownBlock=some (wr.alloc (.cells #[.string Y1,.string Y2,.string Y3] 75)).heap.size)):=hid (by
     obtain⟨v',w',g1,g2,g3,_,g4⟩:=run_append_own_at (P:=Tryz.prog) (wr.alloc (.cells #[.string Y1,.string Y2,.string Y3] 75)) 0 39 39 75 i0 _ 3 48 Tryz.underlying39 eG cJ bJ bG rfl (by decide) _ T _ (bO.alloc _) ⟨wr.heap.size,0,none⟩ 1 1 (didC c) rfl (did_new wr _ rfl c _ _ _ fv.out fz.out fm.out 75) (did_one c) (by unfold maxLen;omega) (by omega) (Nat.zero_le _);rw[aM]at g1
     exact⟨v',w',g1,g2,g3,g4⟩)
    have ex:=hid h1;have aV:=hid aR;have fr:=hid cN;have R1:=hid bb;have eC:=hid hB;have bU:=hid co;have ct:x1.vt.ownBlock≠some P:=fun e=>h1.np (h1.rest.tin P e);have eD:=hid ct;have eU:P<wr.heap.size:=(Array.getElem?_eq_some_iff.1 bb).1;obtain⟨-,-,-,-,-,-,-,-,d8,-⟩:=row9 bb;clear hE eb co hB h1 aM bb bO aR dP bC cN ct eL
    repeat (first
     | (at_builtin;obtain⟨v5,w5,cB,bu,aY,bF⟩:=dr.out;obtain⟨a5,k5,ez,fu⟩:=owns_view bu;clear fu;subst ez;refine wpList_append_eq rfl _ _ _ _ rfl _ _ rfl rfl cB ?_;have ei:=hid bu;have cQ:=hid aY;have dV:=hid bF;have r5:=(aY.block P (by simp;omega) (fun e=>eD.out e.symm)).trans ((Below.heap_alloc _ _ P eU).trans R1.out);obtain⟨-,-,-,-,-,-,-,-,f8,ff⟩:=row9 r5;clear cB bu aY bF r5)
     | go_skip|go_guarded|go_step|go_upon)
    obtain⟨f,hf⟩:∃ f,fateD B=f:=⟨_,rfl⟩;obtain⟨fa,fw,fk,ft⟩:=f;have cx:=hid (diskX_trace (ex.out.below ((Below.refl _ wr).alloc (Nat.le_refl _) (.cells #[.string Y1,.string Y2,.string Y3] 75))) cQ.out (by rw[fr.out];exact ei.out) dV.out);rw[eC.out]at cx;have OU:Hid (Out (fun k=>S1 k\/k=P) wr (w5.setCell ⟨P,8,none⟩ (.slice a5 (T+1) k5))):=hid (((((Out.refl _ wr).alloc (.cells #[.string Y1,.string Y2,.string Y3] 75)).grown cQ.out (fun k hk _=>.inl (ex.out.rest.tin k hk))).setCell (p:=⟨P,8,none⟩) (fun _=>.inr rfl) _));have CF:=fate_any _ _ P B aT [] ⟨_,cx.out⟩;rw[hf]at CF;obtain⟨w6,dJ⟩:∃ W,w5.setCell ⟨P,8,none⟩ (.slice a5 (T+1) k5)=W:=⟨_,rfl⟩;rw[dJ]at CF OU cx ⊢;have dx:Hid (Z=if fw=3 then(crashD B fk ft,75)else if fw=1 then(B,70)else(B,0)):=hid (by rw[bU.out,hf]);have eu:wr.heap.size<=(wr.alloc (.cells #[.string Y1,.string Y2,.string Y3] 75)).heap.size:=by simp
    have dm:=hid eu;clear dJ hf eu bU ei cQ dV;refine CF.mono ?_;rintro r w7 ⟨rfl,dn⟩;simp only[fateV];have D7:=hid (dn.alloc (by exact dn.size) (.cells #[.int .i64 fa,.int .i64 fw,.int .i64 fk,.int .i64 ft] 116));obtain⟨t0,t1,t2,t3,tf⟩:=row4 (heap_alloc_new w7 (.cells #[.int .i64 fa,.int .i64 fw,.int .i64 fk,.int .i64 ft] 116));clear dn;by_cases h3:fw=3
    ·subst h3;have CC:=crash_any _ _ P B aT fk ft ⟨_,cx.out.below D7.out⟩;have cv:Hid (Z=(crashD B fk ft,75)):=hid (by rw[dx.out,if_pos rfl]);repeat (first|go_skip|go_guarded|go_step|go_upon)
     refine CC.mono ?_;rintro r w9 ⟨rfl,⟨S3,eO,eS⟩,fg⟩;simp only[];repeat (first|go_skip|go_guarded|go_step|go_upon)
     go_ret;rw[cv.out];refine⟨rfl,aV.out.does (OU.out.thenBelow D7.out |>.then fg (fun j hj hT=>?_)) (fun k hk=>?_) ⟨aT,eS⟩⟩
     ·rcases hT with (hT|hT)|hT
      ·exact .inl hT
      ·have:=dm.out;omega
      ·exact .inr hT
     ·have bJ:=OU.out.size;have bG:=D7.out.size;have dQ:=dm.out;rcases eO k hk with (h4|h4)|h4|h4
      ·exact .inl h4
      ·exact .inr (by omega)
      ·exact h4.elim
      ·exact .inr (by omega)
    ·have cP:(fw==3)=false:=by simpa using h3
     have bX:Hid (Does S P w.heap.size w B (w7.alloc (.cells #[.int .i64 fa,.int .i64 fw,.int .i64 fk,.int .i64 ft] 116))):=hid (by
      refine aV.out.does (OU.out.thenBelow D7.out) (fun k hk=>?_) ⟨aT,_,cx.out.below D7.out⟩;have dQ:=dm.out;rcases hk with h4|h4
      ·exact .inl h4
      ·exact .inr (by omega))
     by_cases h1:fw=1
     ·subst h1;have cv:Hid (Z=(B,70)):=hid (by rw[dx.out,if_neg h3,if_pos rfl]);repeat (first|go_skip|go_guarded|go_step|go_upon)
      go_ret;rw[cv.out];exact⟨rfl,bX.out⟩
     ·have fC:(fw==1)=false:=by simpa using h1
      have cv:Hid (Z=(B,0)):=hid (by rw[dx.out,if_neg h3,if_neg h1]);clear h3 h1;repeat (first|go_skip|go_guarded|go_step|go_upon)
      go_ret;rw[cv.out];exact⟨rfl,bX.out⟩
end DG
end
section
open Go.RowKit Go.Lib Go.BigFrame
namespace DG
open OM TP TM DP DM TG TR FP
theorem when_any(b:Bool)(e:Int)(w:World):Calls Tryz.prog 59 #[.bool b,.int .i64 e] w fun r w'=>r=.returned (.int .i64 (whenE b e))/\w=w':=by
 cases b with
 | true =>
  go_enter Tryz.func59,Tryz.ntmps59;repeat (first|go_skip|go_guarded|go_step|go_upon)
  go_ret;exact⟨rfl,rfl⟩
 | false =>
  go_enter Tryz.func59,Tryz.ntmps59;repeat (first|go_skip|go_guarded|go_step|go_upon)
  go_ret;exact⟨rfl,rfl⟩
theorem first_at:∀ {l:List Int} {k:Nat} {e:Int},(∀ j x,j<k->l[j]?=some x->x=0)->l[k]?=some e->e≠0->firstE l=e
 | [],_,_,_,h,_=>by simp at h
 | x::l,0,e,_,h,h0=>by
  simp at h;subst h;unfold firstE;rw[if_neg h0]
 | x::l,k+1,e,hn,h,h0=>by
  have hx:=hn 0 x (by omega) rfl;unfold firstE;rw[if_pos hx];exact first_at (fun j y hj hy=>hn (j+1) y (by omega) hy) h h0
theorem first_none:∀ {l:List Int},(∀ j x,j<l.length->l[j]?=some x->x=0)->firstE l=0
 | [],_=>rfl
 | x::l,hn=>by
  have hx:=hn 0 x (by simp) rfl;unfold firstE;rw[if_pos hx];exact first_none (fun j y hj hy=>hn (j+1) y (by simpa using hj) hy)
def FirstInv(l:List Int)(n:Nat)(w:World)(s7:Value)(wr:World):Prop:=∃ k:Nat,s7=.int .i64 k/\k<=n/\(∀ j x,j<k->l[j]?=some x->x=0)/\w=wr
theorem first_any(l:List Int)(g n:Nat)(w:World)(hn:l.length=n)(hs:n<=1000)(h:∀ j x,l[j]?=some x->w.cell? ⟨g,j,none⟩=some (.int .i64 x)) :
  Calls Tryz.prog 58 #[.slice (some ⟨g,0,none⟩) n n] w fun r w'=>r=.returned (.int .i64 (firstE l))/\w=w':=by
 have HC:=hid h;have HN:=hid hn;clear h hn;go_enter Tryz.func58,Tryz.ntmps58;repeat (first|go_skip|go_guarded|go_step|go_upon)
 go_loopw [7] (fun s7 wr=>FirstInv l n w s7 wr) (fun s7 _=>n-(RowKit.intOf s7).toNat)
 case atStart=>exact⟨0,rfl,Nat.zero_le _,fun j x hj=>by omega,rfl⟩
 case round =>
  obtain⟨k,rfl,hk,bD,rfl⟩:=hrel;have dk:=hid bD;by_cases bC:k<n
  ·have db:(k:Int)<n:=by omega
   obtain⟨e,he⟩:∃ e,l[k]?=some e:=⟨l[k]'(by rw[HN.out];exact bC),getElem?_eq_getElem _⟩;have hc:=HC.out k e he;have dU:=hid he;clear he bD bC;by_cases h0:e=0
   ·subst h0;repeat (first|go_skip|go_guarded|go_step|go_upon)
    refine⟨⟨k+1,by go_num,by omega,fun j x hj hx=>?_,rfl⟩,by simp[RowKit.intOf];omega⟩;rcases Nat.lt_or_ge j k with h1|h1
    ·exact dk.out j x h1 hx
    ·obtain rfl:j=k:=by omega
     rw[dU.out]at hx;injection hx with hx;exact hx.symm
   ·have hq:(e != 0)=true:=by simpa using h0
    have HV:Hid (firstE l=e):=hid (first_at dk.out dU.out h0);clear h0;repeat (first|go_skip|go_guarded|go_step|go_upon)
    go_ret;exact⟨by rw[HV.out];rfl,rfl⟩
  ·have db:¬(k:Int)<n:=by omega
   have HV:Hid (firstE l=0):=hid (first_none (fun j x hj=>dk.out j x (by rw[HN.out]at hj;omega)));clear bC bD;repeat (first|go_skip|go_guarded|go_step|go_upon)
   go_ret;exact⟨by rw[HV.out];rfl,rfl⟩
theorem lay_one(W:World)(g:Nat)(p d:List UInt8)(k m:Int)(t:TypeId)(h:W.heap[g]?=some (.cells #[txt p,.int .i64 k,txt d,.int .i64 m] t (0,0))):LayN W (some ⟨g,0,none⟩) [⟨p,k,d,m⟩]:=fun _=>by
 obtain⟨c0,c1,c2,c3,_⟩:=row4 h;refine⟨g,0,rfl,(Array.getElem?_eq_some_iff.1 h).1,fun j n hj=>?_⟩
 match j with
 | 0 =>
  simp at hj;subst hj;exact⟨c0,c1,c2,c3⟩
 | j+1=>simp at hj
theorem stand_any(n:Nd)(w:World)(he:NF.Env w):Calls Tryz.prog 61 #[ndVal n] w fun r w'=>r=.returned (.bool (standB n))/\Below w.heap.size w w':=by
 obtain⟨pt,kd,dt,md⟩:=n;obtain⟨P,hP,_⟩:=txt_of pt;obtain⟨D,hD,_⟩:=txt_of dt
 have CR:Hid (∀ W g,Below w.heap.size w W->W.heap[g]?=some (.cells #[.string ⟨#[]⟩,.int .i64 kd,.string D,.int .i64 md] 45 (0,0))->Calls Tryz.prog 123 #[.slice (some ⟨g,0,none⟩) 1 1] W fun r w'=>r=.returned (.bool (standB ⟨pt,kd,dt,md⟩))/\Below W.heap.size W w'):=hid (fun W g hW hg=>by
  rw[<- hD]at hg
  exact TW.rightV_wide (some ⟨g,0,none⟩) 1 [⟨[],kd,dt,md⟩] W (he.below hW) (lay_one W g [] dt kd md _ hg) (fun n hn=>by rw[List.mem_singleton.1 hn];exact Nat.zero_le _) (by unfold maxLen;simp) (Nat.le_refl _))
 have B1:Hid (Below w.heap.size w ((w.alloc (.cells #[.string ⟨#[]⟩,.int .i64 kd,.string D,.int .i64 md] 45)).alloc (.cells #[.string ⟨#[]⟩,.int .i64 kd,.string D,.int .i64 md] 45))):=hid (((Below.refl _ _).alloc (Nat.le_refl _) _).alloc (by simp) _)
 have R1:Hid (((w.alloc (.cells #[.string ⟨#[]⟩,.int .i64 kd,.string D,.int .i64 md] 45)).alloc (.cells #[.string ⟨#[]⟩,.int .i64 kd,.string D,.int .i64 md] 45)).heap[w.heap.size+1]?=some (.cells #[.string ⟨#[]⟩,.int .i64 kd,.string D,.int .i64 md] 45 (0,0))):=hid (by
  have:=heap_alloc_new (w.alloc (.cells #[.string ⟨#[]⟩,.int .i64 kd,.string D,.int .i64 md] 45)) (.cells #[.string ⟨#[]⟩,.int .i64 kd,.string D,.int .i64 md] 45)
  simpa using this)
 unfold ndVal;simp only;rw[hP,hD];clear hP hD he;go_enter Tryz.func61,Tryz.ntmps61;repeat (first|go_skip|go_guarded|go_step|go_upon)
 refine(CR.out _ _ B1.out R1.out).mono ?_;rintro r w2 ⟨rfl,hb⟩;simp only[];have B2:=hid (Below.trans B1.out (hb.mono B1.out.size));clear hb;repeat (first|go_skip|go_guarded|go_step|go_upon)
 go_ret;exact⟨rfl,B2.out⟩
theorem kind_of{S:Nat->Prop}{w:World}{P:Nat}{D:Dk}{adr:Int->Nat}{pend:List Nd}{x:Parts}(h:DiskX S w P D adr pend x)(p:List UInt8)(hp:p.length<=maxLen) :
  Calls Tryz.prog 57 #[x.vn,txt p] w fun r w'=>r=.returned (.int .i64 (kindD D p))/\Below w.heap.size w w':=by
 obtain⟨ao,cap,ag,bi,_⟩:=layE_own h.rest.names;rw[ag];exact kind_any adr ao cap D.names D.inos p w bi (h.rest.inos.sub (fun e he=>by unfold liveL;exact mem_append_right _ (mem_append_left _ he))) h.fit.names (row_small h.fit.names) hp
theorem up_any(S:Nat->Prop)(w:World)(P:Nat)(D:Dk)(adr:Int->Nat)(pend:List Nd)(p:List UInt8)(h:DiskA S w P D adr pend)(he:NF.Env w)(hp:p.length<=maxLen) :
  Calls Tryz.prog 62 #[.pointer (some ⟨P,0,none⟩),txt p] w fun r w'=>r=.returned (.bool (upB D p))/\Below w.heap.size w w':=by
 obtain⟨x,h⟩:=h;obtain⟨X,hX,ax⟩:=txt_of p;obtain⟨Y,hY,eP⟩:=txt_of (NP.parentL p);have bf:(NP.parentL p).length<=maxLen:=Nat.le_trans (parent_len p) hp;obtain⟨k,hk⟩:∃ k,kindD D (NP.parentL p)=k:=⟨_,rfl⟩;obtain⟨ao,cap,ag,_⟩:=layE_own h.rest.names;obtain⟨n,hn⟩:∃ n,D.names.length=n:=⟨_,rfl⟩;rw[hn]at ag
 have D1:=hid (reg_g (w:=w) (f:=124) (args:=#[.string X]) (v:=.string Y) (fun W hW=>by
  subst ax;refine(NC.parent_any X W (he.below hW) (by rw[size_eq];exact hp)).mono ?_;rintro e w' ⟨t,rfl,ht,hb⟩
  exact⟨by rw[<- hY,← ht,txt_data],hb⟩))
 have D2:=hid (reg_g (w:=w) (f:=57) (args:=#[.slice ao n cap,.string Y]) (v:=.int .i64 k) (fun W hW=>by
  have:=kind_of (h.below hW) (NP.parentL p) bf;rw[ag,hY,hk]at this
  exact this))
 have hr:=h.row;unfold diskC at hr;rw[ag]at hr;obtain⟨c0,-,-,-,-,-,-,-,-,-⟩:=row9 hr;have f0:=cell_regrown c0;have HU:Hid (upB D p=decide (k=2)):=hid (by rw[<- hk];rfl);rw[hX];clear h he hX ax hY eP hk ag hn hr c0;by_cases h2:k=2
 ·have hq:(k==2)=true:=by simpa using h2
  have HB:Hid (upB D p=true):=hid (by rw[HU.out];simpa using h2);clear h2;go_enter Tryz.func62,Tryz.ntmps62;repeat (first|go_skip|go_guarded|go_step|go_upon)
  with_reducible refine wp_region_quiet_below (by kernel_rfl) (by kernel_rfl) ?_
  repeat (go_big_quiet_step (first|(go_at_call 124;exact D1.out _ _)|(go_at_call 57;exact D2.out _ _)))
  refine wpQuiet_nil ?_;intro _ hw';obtain⟨⟨dq,au⟩,ak⟩:=hw';subst ak;have W5:=hid (below_regrown w dq au);clear f0;generalize Go.Sort.grow (redrawn w dq) au=w5 at W5 ⊢;repeat (first|go_skip|go_guarded|go_step|go_upon)
  go_ret;exact⟨by rw[HB.out];rfl,W5.out⟩
 ·have hq:(k==2)=false:=by simpa using h2
  have HB:Hid (upB D p=false):=hid (by rw[HU.out];simpa using h2);clear h2;go_enter Tryz.func62,Tryz.ntmps62;repeat (first|go_skip|go_guarded|go_step|go_upon)
  with_reducible refine wp_region_quiet_below (by kernel_rfl) (by kernel_rfl) ?_
  repeat (go_big_quiet_step (first|(go_at_call 124;exact D1.out _ _)|(go_at_call 57;exact D2.out _ _)))
  refine wpQuiet_nil ?_;intro _ hw';obtain⟨⟨dq,au⟩,ak⟩:=hw';subst ak;have W5:=hid (below_regrown w dq au);clear f0;generalize Go.Sort.grow (redrawn w dq) au=w5 at W5 ⊢;repeat (first|go_skip|go_guarded|go_step|go_upon)
  go_ret;exact⟨by rw[HB.out];rfl,W5.out⟩
theorem room_any(S:Nat->Prop)(w:World)(P:Nat)(D:Dk)(adr:Int->Nat)(pend:List Nd)(p:List UInt8)(h:DiskA S w P D adr pend)(hp:p.length<=maxLen) :
  Calls Tryz.prog 63 #[.pointer (some ⟨P,0,none⟩),txt p] w fun r w'=>r=.returned (.bool (roomB D p))/\Below w.heap.size w w':=by
 have hA:=h;obtain⟨x,h⟩:=h;obtain⟨X,hX,_⟩:=txt_of p;obtain⟨k,hk⟩:∃ k,kindD D p=k:=⟨_,rfl⟩;obtain⟨⟨fa,fw,fk,ft⟩,hf⟩:∃ f,fateD D=f:=⟨_,rfl⟩;obtain⟨ao,cap,ag,_⟩:=layE_own h.rest.names;obtain⟨n,hn⟩:∃ n,D.names.length=n:=⟨_,rfl⟩;rw[hn]at ag;have f2:n<=1000:=by have:=h.fit.names.len;omega
 have CK:Hid (∀ W,Below w.heap.size w W->Calls Tryz.prog 57 #[.slice ao n cap,.string X] W fun r w'=>r=.returned (.int .i64 k)/\Below W.heap.size W w'):=hid (fun W hW=>by
  have:=kind_of (h.below hW) p hp;rw[ag,hX,hk]at this
  exact this)
 have CF:Hid (∀ W,Below w.heap.size w W->Calls Tryz.prog 118 #[.pointer (some ⟨P,0,none⟩)] W fun r w'=>r=.returned (.agg #[.int .i64 fa,.int .i64 fw,.int .i64 fk,.int .i64 ft])/\Below W.heap.size W w'):=hid (fun W hW=>by
  have:=fate_any S W P D adr pend (hA.below hW);rw[hf]at this
  exact this)
 have HU:Hid (roomB D p=(decide (fw≠2)&&!(decide (k=0)&&decide (1000<=n)))):=hid (by
  unfold roomB
  rw[hf,hk,hn])
 have hr:=h.row;unfold diskC at hr;rw[ag]at hr;obtain⟨c0,-,-,-,-,-,-,-,-,-⟩:=row9 hr;have bf:=(Array.getElem?_eq_some_iff.1 hr).1;rw[hX];clear h hA hX hk hf ag hn hr hp;obtain⟨b2,al⟩:∃ b,(fw != 2)=b:=⟨_,rfl⟩;obtain⟨b0,dB⟩:∃ b,(k==0)=b:=⟨_,rfl⟩
 have HV:Hid (roomB D p=(b2&&!(b0&&decide (1000<=n)))):=hid (by
  rw[HU.out,← al,← dB]
  by_cases h1:fw=2<;>by_cases h3:k=0<;>simp[h1,h3])
 have B0:=hid (Below.refl w.heap.size w);have bY:∀ w:World,(Instr.field 116 (.agg #[.int .i64 fa,.int .i64 fw,.int .i64 fk,.int .i64 ft]) 1).run Tryz.prog w=.ok (.int .i64 fw) w:=fun _=>by kernel_rfl
 cases b0<;>cases b2<;>rcases Nat.lt_or_ge n 1000 with h5|h5
 all_goals
  have h6:=h5
  first
   | (have hg:¬(1000:Int)<=n:=by omega)
   | (have hg:(1000:Int)<=n:=by omega)
  go_enter Tryz.func63,Tryz.ntmps63
  repeat (first
   | (go_at_call 57;refine(CK.out w B0.out).mono ?_;rintro r w1 ⟨rfl,hb⟩;simp only[];have B1:=hid hb;have c1:=(hb.cell (p:=⟨P,0,none⟩) bf).trans c0;clear hb)
   | (go_at_call 118;refine OM.onB (CF.out _ B1.out) B1 ?_;intro w2 B2;simp only[])
   | go_skip|go_guarded|go_step|go_upon)
  go_ret;refine⟨?_,B2.out⟩;rw[HV.out];simp[h6]
end DG
end
section
open Go.RowKit Go.Lib Go.BigFrame
namespace DG
open OM TP TM DP DM TG TR FP
theorem when_g(w:World)(b:Bool)(e:Int)(d:Nat)(os:Array Obj) :
  Calls Tryz.prog 59 #[.bool b,.int .i64 e] (Go.Sort.grow (redrawn w d) os) fun r w''=>r=.returned (.int .i64 (whenE b e))/\∃ p:Regrown,w''=Go.Sort.grow (redrawn w p.d) p.os :=
 reg_g (w:=w) (fun W _=>(when_any b e W).mono (fun r w' ⟨h1,h2⟩=>⟨h1,h2 ▸ Below.refl _ _⟩)) d os
theorem first2(a b:Int)(W:World)(g:Nat)(t:TypeId)(h:W.heap[g]?=some (.cells #[.int .i64 a,.int .i64 b] t (0,0))) :
  Calls Tryz.prog 58 #[.slice (some ⟨g,0,none⟩) 2 2] W fun r w'=>r=.returned (.int .i64 (firstE [a,b]))/\W=w':=by
 obtain⟨c0,c1,_⟩:=row2 h;refine first_any [a,b] g 2 W rfl (by omega) (fun j x hj=>?_)
 match j with
 | 0=>simp at hj;subst hj;exact c0
 | 1=>simp at hj;subst hj;exact c1
 | j+2=>simp at hj
theorem first3(a b c:Int)(W:World)(g:Nat)(t:TypeId)(h:W.heap[g]?=some (.cells #[.int .i64 a,.int .i64 b,.int .i64 c] t (0,0))) :
  Calls Tryz.prog 58 #[.slice (some ⟨g,0,none⟩) 3 3] W fun r w'=>r=.returned (.int .i64 (firstE [a,b,c]))/\W=w':=by
 obtain⟨c0,c1,c2,_⟩:=row3 h;refine first_any [a,b,c] g 3 W rfl (by omega) (fun j x hj=>?_)
 match j with
 | 0=>simp at hj;subst hj;exact c0
 | 1=>simp at hj;subst hj;exact c1
 | 2=>simp at hj;subst hj;exact c2
 | j+3=>simp at hj
theorem row5{W:World}{b:Nat}{a0 a1 a2 a3 a4:Value}{t:TypeId}(h:W.heap[b]?=some (.cells #[a0,a1,a2,a3,a4] t (0,0))) :
  W.cell? ⟨b,0,none⟩=some a0/\W.cell? ⟨b,1,none⟩=some a1/\W.cell? ⟨b,2,none⟩=some a2/\W.cell? ⟨b,3,none⟩=some a3/\W.cell? ⟨b,4,none⟩=some a4 :=
 ⟨by rw[cell_of_row W b 0 _ _ _ h];rfl,by rw[cell_of_row W b 1 _ _ _ h];rfl,by rw[cell_of_row W b 2 _ _ _ h];rfl,by rw[cell_of_row W b 3 _ _ _ h];rfl,by rw[cell_of_row W b 4 _ _ _ h];rfl⟩
theorem first5(a b c d e:Int)(W:World)(g:Nat)(t:TypeId)(h:W.heap[g]?=some (.cells #[.int .i64 a,.int .i64 b,.int .i64 c,.int .i64 d,.int .i64 e] t (0,0))) :
  Calls Tryz.prog 58 #[.slice (some ⟨g,0,none⟩) 5 5] W fun r w'=>r=.returned (.int .i64 (firstE [a,b,c,d,e]))/\W=w':=by
 obtain⟨c0,c1,c2,c3,c4⟩:=row5 h;refine first_any [a,b,c,d,e] g 5 W rfl (by omega) (fun j x hj=>?_)
 match j with
 | 0=>simp at hj;subst hj;exact c0
 | 1=>simp at hj;subst hj;exact c1
 | 2=>simp at hj;subst hj;exact c2
 | 3=>simp at hj;subst hj;exact c3
 | 4=>simp at hj;subst hj;exact c4
 | j+5=>simp at hj
theorem path_txt(S:ByteArray)(p:List UInt8)(W:World)(he:NF.Env W)(hS:S.data.toList=p)(hp:p.length<=maxLen) :
  Calls Tryz.prog 60 #[.string S] W fun e w'=>e=.returned (.bool (NP.pathL p))/\Below W.heap.size W w':=by
 subst hS;exact NF.path_any S W he (by rw[size_eq];exact hp)
theorem missing_any(S:Nat->Prop)(w:World)(P:Nat)(D:Dk)(adr:Int->Nat)(pend:List Nd)(p:List UInt8)(h:DiskA S w P D adr pend)(he:NF.Env w)(hp:p.length<=maxLen) :
  Calls Tryz.prog 129 #[.pointer (some ⟨P,0,none⟩),txt p] w fun r w'=>r=.returned (.int .i64 (missE D p))/\Below w.heap.size w w':=by
 obtain⟨x,h⟩:=h;obtain⟨X,hX,ax⟩:=txt_of p;obtain⟨k,hk⟩:∃ k,kindD D p=k:=⟨_,rfl⟩;obtain⟨b,hb⟩:∃ b,NP.pathL p=b:=⟨_,rfl⟩;obtain⟨ao,cap,ag,_⟩:=layE_own h.rest.names;obtain⟨n,hn⟩:∃ n,D.names.length=n:=⟨_,rfl⟩;rw[hn]at ag
 have D1:=hid (reg_g (w:=w) (f:=60) (args:=#[.string X]) (v:=.bool b) (fun W hW=>by
  have:=path_txt X p W (he.below hW) ax hp;rw[hb]at this
  exact this))
 have D2:=hid (reg_g (w:=w) (f:=57) (args:=#[.slice ao n cap,.string X]) (v:=.int .i64 k) (fun W hW=>by
  have:=kind_of (h.below hW) p hp;rw[ag,hX,hk]at this
  exact this))
 have D3:=hid (fun b e=>when_g w b e);have hr:=h.row;unfold diskC at hr;rw[ag]at hr;obtain⟨c0,-,-,-,-,-,-,-,-,-⟩:=row9 hr;have f0:=cell_regrown c0
 have HU:Hid (missE D p=firstE [whenE (!decide (p=[])&&!b) 11,whenE (decide (k=0)) 74]):=hid (by
  unfold missE
  rw[hb,hk])
 obtain⟨z,hz⟩:∃ z,X.toList.isEmpty=z:=⟨_,rfl⟩;have HZ:Hid (decide (p=[])=z):=hid (by rw[<- hz,toList_data,ax];cases p<;>simp);obtain⟨q,hq⟩:∃ q,(k==0)=q:=⟨_,rfl⟩;have HQ:Hid (decide (k=0)=q):=hid (by rw[<- hq];by_cases h:k=0<;>simp[h]);rw[hX];clear h he hX ax hb hk ag hn hr c0;cases z
 all_goals
  go_enter Tryz.func129,Tryz.ntmps129;repeat (first|go_skip|go_guarded|go_step|go_upon)
  with_reducible refine QT.region_tail 16 (by kernel_rfl) (by kernel_rfl) ?_
  simp only[take_succ_cons,take_zero,drop_succ_cons,drop_zero];repeat (go_big_quiet_step (first|(go_at_call 60;exact D1.out _ _)|(go_at_call 57;exact D2.out _ _)|(go_at_call 59;exact D3.out _ _ _ _)))
  refine wpQuiet_nil ?_;intro _ hw';obtain⟨⟨dq,au⟩,ak⟩:=hw';subst ak;have W5:=hid (below_regrown w dq au);clear f0;generalize Go.Sort.grow (redrawn w dq) au=w5 at W5 ⊢
  repeat (first
   | (go_at_call 58;refine(first2 _ _ _ _ _ (heap_alloc_new w5 _)).mono ?_;rintro r w6 ⟨rfl,rfl⟩;simp only[])
   | go_skip|go_guarded|go_step|go_upon)
  go_ret;refine⟨?_,W5.out.alloc W5.out.size _⟩;rw[HU.out,HZ.out,HQ.out];rfl
end DG
end
section
open Go.RowKit Go.Lib Go.BigFrame
namespace DG
open OM TP TM DP DM TG TR FP
theorem live_row{D:Dk}(h:Fit D){e:Nd}(he:e∈liveL D):∃ k:Nat,e.kind=k/\1<=k/\k<=D.inos.length:=by
 have de:∀ {l:List Nd},Row D.inos.length l->e∈l->∃ k:Nat,e.kind=k/\1<=k/\k<=D.inos.length:=fun hr hm=>by
  obtain⟨k,h1,h2,h3⟩:=hr.ino e hm;exact⟨k,by rw[h1];rfl,h2,h3⟩
 unfold liveL at he;rcases List.mem_append.1 he with he|he
 ·exact de h.names he
 ·rcases List.mem_append.1 he with he|he
  ·exact de h.safe he
  ·obtain⟨l,h1,h2⟩:=List.mem_flatten.1 he;exact de (h.later l h1) h2
theorem ino_set_same{I:List Ino}{k:Nat}(i:Ino)(h1:1<=k)(h2:k<=I.length):inoOf (I.set ((k:Int).toNat-1) i) k=i:=by
 unfold inoOf;rw[List.getD_eq_getElem?_getD,List.getElem?_set_self (by omega)];rfl
theorem ino_set_other{I:List Ino}{k j:Nat}(i:Ino)(h1:1<=k)(h2:1<=j)(h:j≠k):inoOf (I.set ((k:Int).toNat-1) i) j=inoOf I j:=by
 unfold inoOf;rw[List.getD_eq_getElem?_getD,List.getD_eq_getElem?_getD,List.getElem?_set_ne (by omega)]
theorem setI_some{D:Dk}{p:List UInt8}{e:Nd}(f:Ino->Ino)(h:findN D.names p=some e):setI D p f={ D with inos:=D.inos.set (e.kind.toNat-1) (f (inoOf D.inos e.kind)) }:=by
 unfold setI;rw[h]
theorem diskX_ino{S:Nat->Prop}{w w':World}{P:Nat}{D:Dk}{adr:Int->Nat}{x:Parts}{p:List UInt8}{e:Nd}{f:Ino->Ino}(h:DiskX S w P D adr [] x)(he:findN D.names p=some e)(ht:Turn (adr e.kind) w w')
  (hi:InoAt w' (adr e.kind) e.kind (f (inoOf D.inos e.kind))) (hd:(f (inoOf D.inos e.kind)).data.length<=65536):DiskX S w' P (setI D p f) adr [] x:=by
 rw[setI_some f he];have hm:=(find_mem he).1;have ar:e∈liveL D:=by unfold liveL;exact mem_append_left _ hm
 obtain⟨k,hk,ba,aO⟩:=live_row h.fit ar;have bn:e.kind≠0:=by omega
 have hS:S (adr e.kind):=h.rest.iin e (mem_append_right _ ar) bn;have hT:IsT w (adr e.kind) 173:=ino_type (h.rest.inos e (mem_append_right _ ar) bn);have bf:=(Array.getElem?_eq_some_iff.1 h.row).1;have hs:=ht.size;have hr:=h.rest
 have cX:∀ g t,IsT w g t->S g->t≠173->w'.heap[g]?=w.heap[g]?:=fun g t hg hS dD =>
  ht.block g (h.lt g hS) (fun e=>hg.ne hT dD e)
 have rows:∀(t:TypeId) {n size:Nat} {u:Value} {xs:List Value},w.ownsRow 0 t size u n xs->(∀ g,u.ownBlock=some g->S g)->t≠173->w'.ownsRow 0 t size u n xs:=fun t {n size u xs} ca hi h1 =>
  own_same ca fun g hg2=>cX g t (own_type ca g hg2) (hi g hg2) h1
 have aU:(D.inos.set (e.kind.toNat-1) (f (inoOf D.inos e.kind))).length=D.inos.length:=List.length_set ..;refine⟨?_,?_,fun g hg=>Nat.lt_of_lt_of_le (h.lt g hg) hs,h.np,?_⟩
 ·have:=(ht.block P bf (fun e=>h.np (e ▸ hS))).trans h.row;rw[this];unfold diskC;simp only;rw[aU]
 ·exact {
   names:=rows _ hr.names hr.nin (by decide)
   nin:=hr.nin
   safe:=rows _ hr.safe hr.sin (by decide)
   sin:=hr.sin
   apart:=hr.apart
   ch:=rows _ hr.ch hr.chin (by decide)
   chin:=hr.chin
   each:=fun c hc=>by
    obtain⟨h1,h2,h3⟩:=hr.each c hc;exact⟨h1.same hs (fun a ha _=>cX _ _ (h3 a ha).2.1 (h3 a ha).1 (by decide)),h2,fun a ha=>⟨(h3 a ha).1,(h3 a ha).2.1.same (cX _ _ (h3 a ha).2.1 (h3 a ha).1 (by decide)),(h3 a ha).2.2⟩⟩
   crow:=fun c hc=>by
    show CRow (D.inos.set _ _).length _;rw[aU];exact hr.crow c hc
   later:=hr.later
   ends:=hr.ends
   lens:=hr.lens
   inos:=fun c hc h0=>by
    have eY:c∈liveL D:=by
     rcases List.mem_append.1 hc with h1|h1
     ·cases h1
     ·exact h1
    obtain⟨j,hj,eV,f5⟩:=live_row h.fit eY;by_cases hjk:j=k
    ·have fh:c.kind=e.kind:=by omega
     rw[fh];show InoAt w' _ _ (inoOf (D.inos.set _ _) e.kind);have:=ino_set_same (I:=D.inos) (f (inoOf D.inos e.kind)) ba aO;rw[<- hk]at this;rw[this];exact hi
    ·have dD:adr c.kind≠adr e.kind:=fun ee=>by
      have:=hr.inj c hc e (mem_append_right _ ar) h0 bn ee;omega
     show InoAt w' _ _ (inoOf (D.inos.set _ _) c.kind);have:=ino_set_other (I:=D.inos) (f (inoOf D.inos e.kind)) ba eV hjk;rw[<- hk,← hj]at this;rw[this];have h2:=hr.inos c hc h0;exact(ht.block _ (Array.getElem?_eq_some_iff.1 h2).1 dD).trans h2
   iin:=hr.iin
   inj:=hr.inj
   fates:=rows _ hr.fates hr.fin (by decide)
   fin:=hr.fin
   edits:=rows _ hr.edits hr.ein (by decide)
   ein:=hr.ein
   elen:=hr.elen
   vals:=fun j e u he hu=>by
    obtain⟨h1,h2⟩:=hr.vals j e u he hu;refine⟨rows _ h1 (fun g hg=>?_) (by decide),h2⟩
    cases ha:u.a with
    | none=>rw[ha]at hg;cases hg
    | some a =>
     rw[ha]at hg;injection hg with hg;rw[<- hg];exact h2 a ha
   trace:=rows _ hr.trace hr.tin (by decide)
   tin:=hr.tin }
 ·have hf:=h.fit;refine⟨?_,?_,fun l hl=>?_,fun i hi2=>?_⟩
  ·show Row (D.inos.set _ _).length _;rw[aU];exact hf.names
  ·show Row (D.inos.set _ _).length _;rw[aU];exact hf.safe
  ·show Row (D.inos.set _ _).length _;rw[aU];exact hf.later l hl
  ·rcases List.mem_or_eq_of_mem_set hi2 with h1|rfl
   ·exact hf.data i h1
   ·exact hd
theorem write_any(g:Nat)(k:Int)(i:Ino)(dt:List UInt8)(md tm:Int)(w:World)(h:InoAt w g k i) :
  Calls Tryz.prog 66 #[.pointer (some ⟨g,0,none⟩),txt dt,.int .i64 md,.int .i64 tm] w fun r w'=>r=.returned (.tuple #[])/\InoAt w' g k ⟨tm,i.kind,md,dt,true⟩/\Turn g w w':=by
 obtain⟨t0,kd,m0,d0,dy⟩:=i;obtain⟨D,hD,_⟩:=txt_of dt;obtain⟨D0,ey,_⟩:=txt_of d0;unfold InoAt inoC at h;simp only at h;rw[ey]at h;have HR:=hid h;have HD:=hid hD;obtain⟨-,c1,-,c3,c4,c5,cf⟩:=row6 h;rw[hD];clear h hD ey;go_enter Tryz.func66,Tryz.ntmps66;repeat (first|go_skip|go_guarded|go_step|go_upon)
 go_end0
 refine⟨rfl,?_,((((Out.refl (fun k=>k=g) w).setCell (p:=⟨g,4,none⟩) (fun _=>rfl) _).setCell (p:=⟨g,3,none⟩) (fun _=>rfl) _).setCell (p:=⟨g,1,none⟩) (fun _=>rfl) _).setCell (p:=⟨g,5,none⟩) (fun _=>rfl) _⟩;unfold InoAt inoC;simp only;rw[HD.out];exact row_set (j:=5) (row_set (j:=1) (row_set (j:=3) (row_set (j:=4) HR.out _) _) _) _
end DG
end
section
open Go.RowKit Go.Lib Go.BigFrame
namespace DG
open OM TP TM DP DM TG TR FP
theorem first_cons{a:Int}{l:List Int}(h:firstE (a::l)=0):a=0/\firstE l=0:=by
 unfold firstE at h;by_cases h0:a=0
 ·rw[if_pos h0]at h;exact⟨h0,h⟩
 ·rw[if_neg h0]at h;exact absurd h h0
theorem when_zero{b:Bool}{e:Int}(h:whenE b e=0)(he:e≠0):b=false:=by
 cases b with
 | true=>exact absurd h he
 | false=>rfl
theorem does_then{S S1 S2:Nat->Prop}{P:Nat}{w w1 w2:World}{X:Dk}(h1:Out (fun k=>S k\/k=P) w w1)(hs:∀ k,S1 k->S k\/w.heap.size<=k)(ho:Out (fun k=>S1 k\/k=P) w1 w2)
  (b7:∀ k,S2 k->S1 k\/w1.heap.size<=k) (hd:Disk S2 w2 P X):Does S P w.heap.size w X w2:=by
 have hz:=h1.size;refine⟨h1.then ho (fun j hj hT=>?_),S2,fun k hk=>?_,hd⟩
 ·rcases hT with hT|hT
  ·rcases hs j hT with h3|h3
   ·exact .inl h3
   ·omega
  ·exact .inr hT
 ·rcases b7 k hk with h3|h3
  ·exact hs k h3
  ·exact .inr (by omega)
theorem does_below{S S1:Nat->Prop}{P:Nat}{w w1 w2:World}{X:Dk}(h1:Out (fun k=>S k\/k=P) w w1)(hs:∀ k,S1 k->S k\/w.heap.size<=k)(hd:Disk S1 w1 P X)(hb:Below w1.heap.size w1 w2):Does S P w.heap.size w X w2:=by
 obtain⟨adr,hd⟩:=hd;exact does_then h1 hs ((Out.refl _ w1).thenBelow hb) (fun k hk=>.inl hk) ⟨adr,hd.below hb⟩
theorem env_does{S:Nat->Prop}{P:Nat}{w w1:World}(he:NF.Env w)(h1:Out (fun k=>S k\/k=P) w w1)(hH:Hi S P):NF.Env w1:=env_out he h1 hH.out
theorem chg_fresh{S1:Nat->Prop}{W:World}{P:Nat}{E:Dk}{adr:Int->Nat}{n:Nd}{g:Nat}{a b:Value}(h:DiskA S1 W P (freshD E n) adr ([]++[freshE E n]))(hf:Row E.inos.length E.names)(hp:NP.pathL n.path=true)(hl:E.names.length<1000)
  (hg:g=W.heap.size) (ha:txt n.path=a) (hb:ptrV adr (freshE E n).kind=b) :
  ChgIn S1 (W.alloc (.cells #[a,b] 125)) (freshD E n) adr ([]++[freshE E n]) (some ⟨g,0,none⟩) [freshE E n]:=by
 subst hg ha hb;have hn:=heap_alloc_new W (.cells #[txt n.path,ptrV adr (freshE E n).kind] 125);obtain⟨c0,c1,_⟩:=row2 hn;refine⟨fun _=>⟨W.heap.size,0,rfl,by simp,fun k e hk=>?_⟩,⟨fun e he=>?_,fun e he=>?_⟩,fun a ha=>?_,fun k=>?_,by simp,fun e he _=>⟨e,mem_append_left _ (by simpa using he),rfl⟩⟩
 ·match k with
  | 0 =>
   simp at hk;subst hk;exact⟨c0,c1⟩
  | k+1=>simp at hk
 ·rw[List.mem_singleton.1 he];exact hp
 ·rw[List.mem_singleton.1 he];refine⟨E.inos.length+1,rfl,?_⟩;show _<=(E.inos++[_]).length;simp
 ·injection ha with ha;subst ha;refine⟨⟨_,_,hn⟩,fun hS=>?_⟩;have:=diskA_lt h _ hS;simp at this
 ·have h1:=with_len (freshD E n).names ([freshE E n].take k);have h2:([freshE E n].take k).length<=1:=by rw[List.length_take];simp;omega
  have h3:(freshD E n).names=E.names:=rfl;rw[h3]at h1 ⊢;omega
theorem find_laid{E:Dk}{n:Nd}(hr:Row (E.inos.length+1) (changeD (freshD E n) [freshE E n]).names):findN (changeD (freshD E n) [freshE E n]).names n.path=some (freshE E n):=by
 have hm:freshE E n∈(changeD (freshD E n) [freshE E n]).names:=by
  show freshE E n∈putE E.names (freshE E n);rw[mem_put];refine .inr ⟨?_,rfl⟩;show((E.inos.length+1:Nat):Int)≠0;omega
 exact find_of hr.sorted hm
theorem kindD_ino{D:Dk}{p:List UInt8}(hp:p≠[])(hf:Fit D)(hk:kindD D p≠0):∃ e,findN D.names p=some e/\e∈D.names/\e.kind≠0/\inoN D.names p=e.kind/\kindD D p=(inoOf D.inos e.kind).kind:=by
 rcases kind_ino (I:=D.inos) hp hf.names with ⟨h1,h2⟩|⟨e,he,f3,bY,h1,h3,h2⟩
 ·exact absurd h2 hk
 ·exact⟨e,bY,he,h3,h1,h2⟩
theorem at_of{S:Nat->Prop}{w:World}{P:Nat}{D:Dk}{adr:Int->Nat}{pend:List Nd}{x:Parts}(h:DiskX S w P D adr pend x)(p:List UInt8)(hp:p.length<=maxLen) :
  Calls Tryz.prog 65 #[x.vn,txt p] w (AtPost adr D.names p w):=by
 obtain⟨ao,cap,ag,bi,_⟩:=layE_own h.rest.names;rw[ag];exact at_any adr ao cap D.names p w bi h.fit.names.sorted (row_small h.fit.names) h.fit.names.len hp
theorem at_there{S:Nat->Prop}{w:World}{P:Nat}{D:Dk}{adr:Int->Nat}{pend:List Nd}{x:Parts}(h:DiskX S w P D adr pend x)(p:List UInt8)(hp:p.length<=maxLen)(hp0:p≠[]){e:Nd}(he:findN D.names p=some e)(h0:e.kind≠0) :
  Calls Tryz.prog 65 #[x.vn,txt p] w fun r w'=>r=.returned (.pointer (some ⟨adr e.kind,0,none⟩))/\Below w.heap.size w w':=by
 refine(at_of h p hp).mono ?_;rintro r w' ⟨h1,hb⟩;rw[if_neg hp0]at h1;have h2:inoN D.names p=e.kind:=by unfold inoN;rw[he]
 rw[h2,ptr_pos adr h0]at h1;exact⟨h1,hb⟩
theorem stand_data{n:Nd}(h:standB n=true):n.data.length<=65536:=by
 have hv:=(val_iff _).1 h;exact right_data (hv.right { n with path:=[] } (List.mem_singleton.2 rfl))
end DG
end
section
open Go.RowKit Go.Lib Go.BigFrame
namespace DG
open OM TP TM DP DM TG TR FP
theorem after_no{r:Dk×Int}{f:Dk->Dk×Int}(h:r.2≠0):after r f=r:=by unfold after;rw[if_neg h]
theorem after_yes{r:Dk×Int}{f:Dk->Dk×Int}(h:r.2=0):after r f=f r.1:=by unfold after;rw[if_pos h]
theorem dwrite_any(S:Nat->Prop)(w:World)(P m:Nat)(D:Dk)(p dt:List UInt8)(md:Int)(h:Disk S w P D)(he:NF.Env w)(hH:Hi S P)(hm:Num m D)(hm2:m<=100000)(hp:p.length<=maxLen) :
  Calls Tryz.prog 12 #[.pointer (some ⟨P,0,none⟩),txt p,txt dt,.int .i64 md] w fun r w'=>r=.returned (.int .i64 (writeD D p dt md).2)/\Does S P w.heap.size w (writeD D p dt md).1 w':=by
 obtain⟨X,hX,ax⟩:=txt_of p;obtain⟨Y,hY,_⟩:=txt_of dt;obtain⟨E,hE⟩:∃ E,(stepD D ⟨cWrite,p,[]⟩).1=E:=⟨_,rfl⟩;obtain⟨er,ah⟩:∃ e,(stepD D ⟨cWrite,p,[]⟩).2=e:=⟨_,rfl⟩;have aa:=step_num hm ⟨cWrite,p,[]⟩
 have CS:Hid (Calls Tryz.prog 56 #[.pointer (some ⟨P,0,none⟩),.string ⟨#[87,114,105,116,101]⟩,.string X,.string ⟨#[]⟩] w fun r w'=>r=.returned (.int .i64 er)/\Does S P w.heap.size w E w'):=hid (by
  have:=step_any S w P m D ⟨cWrite,p,[]⟩ h he hH hm hm2;rw[hE,ah]at this;simp only at this;rw[hX]at this
  exact this)
 rw[hE]at aa
 have a9:Hid (er≠0->writeD D p dt md=(E,er)):=hid (fun h0=>by
  unfold writeD
  rw[after_no (by rw[ah];exact h0),← hE,← ah])
 have aA:Hid (er=0->writeD D p dt md=refuse (writeE E p dt md) E (wroteD E p dt md)):=hid (fun h0=>by
  unfold writeD
  rw[after_yes (by rw[ah];exact h0),← hE])
 have HE:=hid he;have HH:=hid hH;have HX:=hid hX;have bv:=hid ax;have HY:=hid hY
 have al:E.later.length<=1099511627776/\E.inos.length<=4611686018427387904:=by
  have a1:=aa.later;have a2:=aa.inos;have ba:m*2097152<=100000*2097152:=Nat.mul_le_mul_right _ hm2;have aO:m*2147483648<=100000*2147483648:=Nat.mul_le_mul_right _ hm2;constructor<;>omega
 have bk:=hid al;have HP:=hid hp;obtain⟨Z,hZ⟩:∃ Z,writeD D p dt md=Z:=⟨_,rfl⟩;rw[hZ]at a9 aA;rw[hZ,hX,hY];clear h he hH hm hE ah aa hX ax hY al hp hZ;go_enter Tryz.func12,Tryz.ntmps12;repeat (first|go_skip|go_guarded|go_step|go_upon)
 refine CS.out.mono ?_;rintro r w1 ⟨rfl,am,S1,aq,adr,x,ac⟩;simp only[];have av:=hid am;have aw:=hid aq;have aj:=hid ac;by_cases h0:er=0
 ·have HZ:=hid (aA.out h0);obtain⟨ao,cap,ag,_⟩:=layE_own ac.rest.names;obtain⟨n,hn⟩:∃ n,E.names.length=n:=⟨_,rfl⟩;rw[hn]at ag;have hr:=ac.row;unfold diskC at hr;rw[ag]at hr;obtain⟨c0,-,-,-,-,-,-,-,-,-⟩:=row9 hr;have bf:=(Array.getElem?_eq_some_iff.1 hr).1;obtain⟨k,hk⟩:∃ k,kindD E p=k:=⟨_,rfl⟩;have E1:=hid (env_does HE.out am HH.out);have BA:Hid (Below w1.heap.size w1 (w1.alloc (.cells #[.string X,.int .i64 1,.string Y,.int .i64 md] 45))):=hid ((Below.refl _ _).alloc (Nat.le_refl _) _);have RA:Hid ((w1.alloc (.cells #[.string X,.int .i64 1,.string Y,.int .i64 md] 45)).heap[w1.heap.size]?=some (.cells #[.string X,.int .i64 1,.string Y,.int .i64 md] 45 (0,0))):=hid (heap_alloc_new w1 _)
  have CK:Hid (Calls Tryz.prog 57 #[.slice ao n cap,.string X] (w1.alloc (.cells #[.string X,.int .i64 1,.string Y,.int .i64 md] 45)) fun r w'=>r=.returned (.int .i64 k)/\Below (w1.alloc (.cells #[.string X,.int .i64 1,.string Y,.int .i64 md] 45)).heap.size (w1.alloc (.cells #[.string X,.int .i64 1,.string Y,.int .i64 md] 45)) w'):=hid (by
   have:=kind_of (ac.below BA.out) p HP.out;rw[ag,HX.out,hk]at this
   exact this)
  have HK:=hid hk;subst h0;clear am aq ac ag hn hr hk;repeat (first|go_skip|go_guarded|go_step|go_upon)
  refine CK.out.mono ?_;rintro r w2 ⟨rfl,al⟩;simp only[];have B2:=hid (Below.trans BA.out (al.mono BA.out.size));have R2:=hid ((al.block _ (Array.getElem?_eq_some_iff.1 RA.out).1).trans RA.out);have D2:=hid (aj.out.below B2.out);have E2:=hid (E1.out.below B2.out);clear al c0;obtain⟨t0,t1,t2,t3,-⟩:=row4 R2.out;have g0:=cell_regrown t0;have g1:=cell_regrown t1;have g2:=cell_regrown t2;have g3:=cell_regrown t3;obtain⟨b1,ay⟩:∃ b,NP.pathL p=b:=⟨_,rfl⟩;obtain⟨b2,al⟩:∃ b,standB ⟨p,1,dt,md⟩=b:=⟨_,rfl⟩;obtain⟨b3,aW⟩:∃ b,upB E p=b:=⟨_,rfl⟩;obtain⟨b4,aL⟩:∃ b,roomB E p=b:=⟨_,rfl⟩
  have D1:=hid (reg_g (w:=w2) (f:=60) (args:=#[.string X]) (v:=.bool b1) (fun W hW=>by
   have:=path_txt X p W (E2.out.below hW) bv.out HP.out;rw[ay]at this
   exact this))
  have D3:=hid (reg_g (w:=w2) (f:=61) (args:=#[.agg #[.string X,.int .i64 1,.string Y,.int .i64 md]]) (v:=.bool b2) (fun W hW=>by
   have:=stand_any ⟨p,1,dt,md⟩ W (E2.out.below hW);unfold ndVal at this;rw[al]at this;simp only at this;rw[HX.out,HY.out]at this
   exact this))
  have D4:=hid (reg_g (w:=w2) (f:=62) (args:=#[.pointer (some ⟨P,0,none⟩),.string X]) (v:=.bool b3) (fun W hW=>by
   have:=up_any S1 W P E adr [] p ⟨x,D2.out.below hW⟩ (E2.out.below hW) HP.out;rw[aW,HX.out]at this
   exact this))
  have D5:=hid (reg_g (w:=w2) (f:=63) (args:=#[.pointer (some ⟨P,0,none⟩),.string X]) (v:=.bool b4) (fun W hW=>by
   have:=room_any S1 W P E adr [] p ⟨x,D2.out.below hW⟩ HP.out;rw[aL,HX.out]at this
   exact this))
  have D6:=hid (fun b e=>when_g w2 b e);obtain⟨q2,d1⟩:∃ b,(k==2)=b:=⟨_,rfl⟩;obtain⟨q3,cP⟩:∃ b,(k==3)=b:=⟨_,rfl⟩;obtain⟨e0,ab⟩:∃ e,writeE E p dt md=e:=⟨_,rfl⟩
  have bc:Hid (firstE [whenE (!b1) 11,whenE (!b2) 2,whenE (!b3) 62,whenE (q2||q3) 73,whenE (!b4) 71]=e0):=hid (by
   rw[<- ab];unfold writeE;rw[ay,al,aW,aL,HK.out,← d1,← cP];have z2:decide (k=2)=(k==2):=by by_cases h:k=2<;>simp[h]
   have z3:decide (k=3)=(k==3):=by by_cases h:k=3<;>simp[h]
   rw[z2,z3])
  have ap:Hid (e0=0->NP.pathL p=true/\standB ⟨p,1,dt,md⟩=true/\roomB E p=true):=hid (fun hz=>by
   have h1:=bc.out;rw[hz]at h1;obtain⟨z1,h1⟩:=first_cons h1;obtain⟨z2,h1⟩:=first_cons h1;obtain⟨_,h1⟩:=first_cons h1;obtain⟨_,h1⟩:=first_cons h1;obtain⟨z5,_⟩:=first_cons h1;have y1:=when_zero z1 (by omega);have y2:=when_zero z2 (by omega);have y5:=when_zero z5 (by omega);rw[ay,al,aL];simp at y1 y2 y5
   exact⟨y1,y2,y5⟩)
  have aP:=hid ab;clear ay al aW aL ab t0 t1 t2 t3;cases q2
  all_goals
   repeat (first|go_skip|go_guarded|go_step|go_upon)
   with_reducible refine QT.region_tail 25 (by kernel_rfl) (by kernel_rfl) ?_
   simp only[take_succ_cons,take_zero,drop_succ_cons,drop_zero];repeat (go_big_quiet_step (first|(go_at_call 60;exact D1.out _ _)|(go_at_call 61;exact D3.out _ _)|(go_at_call 62;exact D4.out _ _)|(go_at_call 63;exact D5.out _ _)|(go_at_call 59;exact D6.out _ _ _ _)))
   refine wpQuiet_nil ?_;intro _ hw';obtain⟨⟨dq,au⟩,ak⟩:=hw';subst ak;have B5:=hid (below_regrown w2 dq au);clear g0 g1 g2 g3;generalize Go.Sort.grow (redrawn w2 dq) au=w5 at B5 ⊢;have B6:=hid (Below.trans B2.out (B5.out.mono B2.out.size));have R6:=hid ((B5.out.block _ (Array.getElem?_eq_some_iff.1 R2.out).1).trans R2.out);repeat (first|go_skip|go_guarded|go_step|go_upon)
   refine(first5 _ _ _ _ _ _ _ _ (heap_alloc_new w5 _)).mono ?_;rintro r w7 ⟨bd,aS⟩;have aG:=bd.trans (congrArg (fun z=>Ending.returned (.int .i64 z)) bc.out);subst aG;clear bd;simp only[];have B7:Hid (Below w1.heap.size w1 w7):=hid (aS ▸ B6.out.alloc B6.out.size _);have R7:=hid (aS ▸ (Below.heap_alloc w5 _ _ (Array.getElem?_eq_some_iff.1 R6.out).1).trans R6.out);clear aS;by_cases ab:e0=0
   ·subst ab;have az:=hid (ap.out rfl);have aK:Hid (Z=(wroteD E p dt md,0)):=hid (by rw[HZ.out,aP.out];rfl);have D7:=hid (aj.out.below B7.out);by_cases bn:k=0
    ·subst bn
     have bU:Hid (Z=(DP.setI (changeD (freshD E ⟨p,1,dt,md⟩) [freshE E ⟨p,1,dt,md⟩]) p (wroteI (changeD (freshD E ⟨p,1,dt,md⟩) [freshE E ⟨p,1,dt,md⟩]) dt md),0)):=hid (by
      rw[aK.out];unfold wroteD
      rw[if_pos HK.out])
     have HL:Hid (E.names.length<1000):=hid (by
      have:=az.out.2.2;unfold roomB at this;rw[HK.out]at this;simp at this
      omega)
     obtain⟨t0,t1,t2,t3,-⟩:=row4 R7.out;repeat (first|go_skip|go_guarded|go_step|go_upon)
     have CF:=fresh_any S1 w7 P E adr [] ⟨p,1,dt,md⟩ ⟨x,D7.out⟩ (fun e he=>by cases he) (stand_data az.out.2.1) bk.out.2;unfold ndVal at CF;simp only at CF;rw[HX.out,HY.out]at CF;refine CF.mono ?_;rintro r w8 ⟨gg,bm,rfl,b6,c7⟩;clear CF;simp only[];obtain⟨aI,aJ⟩:∃ a,updA adr (E.inos.length+1) gg=a:=⟨_,rfl⟩
     have bT:ptrV aI (freshE E ⟨p,1,dt,md⟩).kind=.pointer (some ⟨gg,0,none⟩):=by
      rw[<- aJ];unfold ptrV;rw[show(freshE E ⟨p,1,dt,md⟩).kind=((E.inos.length+1:Nat):Int) from rfl,if_neg (by omega),updA_new]
     have cD:enV (updA adr (E.inos.length+1) gg) (freshE E ⟨p,1,dt,md⟩)=.agg #[.string X,.pointer (some ⟨gg,0,none⟩)]:=by
      unfold enV;rw[aJ,bT,show(freshE E ⟨p,1,dt,md⟩).path=p from rfl,HX.out]
     rw[cD];rw[aJ]at b6;have bK:=hid (chg_fresh (g:=w8.heap.size) b6 aj.out.fit.names az.out.1 HL.out rfl HX.out bT);have dz:=hid b6;have bH:=hid c7;have cu:=hid bm;clear b6 c7 cD bT aJ bm;repeat (first|go_skip|go_guarded|go_step|go_upon)
     refine(change_any _ _ P _ aI _ _ 1 [freshE E ⟨p,1,dt,md⟩] (by obtain⟨x8,h8⟩:=dz.out;exact⟨x8,h8.below ((Below.refl _ _).alloc (Nat.le_refl _) _)⟩) bK.out bk.out.1).mono ?_;rintro r w9 ⟨rfl,⟨S9,bh,bs⟩,bt⟩;simp only[];obtain⟨x9,bV⟩:=diskA_pend (pend':=[]) bs (fun e he=>by cases he);have H9:=hid bV
     have fb:Hid (findN (changeD (freshD E ⟨p,1,dt,md⟩) [freshE E ⟨p,1,dt,md⟩]).names p=some (freshE E ⟨p,1,dt,md⟩)):=hid (find_laid (n:=⟨p,1,dt,md⟩) (by
      have:=bV.fit.names;have hl:(changeD (freshD E ⟨p,1,dt,md⟩) [freshE E ⟨p,1,dt,md⟩]).inos.length=E.inos.length+1:=by show(E.inos++[_]).length=_;simp
      rw[hl]at this
      exact this))
     obtain⟨e9,bq,ed⟩:∃ e,freshE E ⟨p,1,dt,md⟩=e/\findN (changeD (freshD E ⟨p,1,dt,md⟩) [freshE E ⟨p,1,dt,md⟩]).names p=some e:=⟨_,rfl,fb.out⟩;have aN:=hid ed
     have be:e9.kind≠0:=by
      rw[<- bq];show((E.inos.length+1:Nat):Int)≠0;omega
     have b8:Hid (Out (fun k=>S1 k\/k=P) w1 w9):=hid (by
      have bJ:=B7.out.size;have bI:=bH.out.size;refine(((((Out.refl _ w1).thenBelow B7.out).then bH.out (fun j hj hT=>.inr hT))).alloc _).then bt (fun j hj hT=>?_);rcases hT with ⟨hT|hT,_⟩|hT
      ·exact .inl hT
      ·have:=cu.out;omega
      ·exact .inr hT)
     have br:Hid (∀ k,S9 k->S1 k\/w1.heap.size<=k):=hid (fun k hk=>by
      have bJ:=B7.out.size;have bI:=bH.out.size;have fj:=cu.out;have bS:(w8.alloc (.cells #[.string X,.pointer (some ⟨gg,0,none⟩)] 125)).heap.size=w8.heap.size+1:=by simp
      rcases bh k hk with (h4|h4)|⟨a,h4,h5⟩|h4
      ·exact .inl h4
      ·exact .inr (by omega)
      ·injection h4 with h4;subst h4;exact .inr (by simp only at h5;omega)
      ·exact .inr (by omega))
     clear bh bs bt bV ed bq;obtain⟨d4,bR,aD,_⟩:=layE_own H9.out.rest.names;obtain⟨n9,cr⟩:∃ n,(changeD (freshD E ⟨p,1,dt,md⟩) [freshE E ⟨p,1,dt,md⟩]).names.length=n:=⟨_,rfl⟩;rw[cr]at aD;obtain⟨bg,aH⟩:∃ g,aI e9.kind=g:=⟨_,rfl⟩;obtain⟨cz,bl⟩:∃ c,(changeD (freshD E ⟨p,1,dt,md⟩) [freshE E ⟨p,1,dt,md⟩]).clock=c:=⟨_,rfl⟩;have bz:=H9.out.row;unfold diskC at bz;rw[aD,bl]at bz;obtain⟨k0,-,-,-,-,k5,-,-,-,-⟩:=row9 bz;have aE:=H9.out.rest.inos e9 (mem_append_right _ (by unfold liveL;exact mem_append_left _ (find_mem aN.out).1)) be;rw[aH]at aE
     have D7:=hid (reg_g (w:=w9) (f:=65) (args:=#[.slice d4 n9 bR,.string X]) (v:=.pointer (some ⟨bg,0,none⟩)) (fun W hW=>by
      have:=at_there (H9.out.below hW) p HP.out (path_ne az.out.1) aN.out be;rw[aD,HX.out,aH]at this
      exact this))
     have da:Hid (∀ W,Below w9.heap.size w9 W->Calls Tryz.prog 66 #[.pointer (some ⟨bg,0,none⟩),.string Y,.int .i64 md,.int .i64 cz] W fun r w'=>r=.returned (.tuple #[])/\InoAt w' bg e9.kind (wroteI (changeD (freshD E ⟨p,1,dt,md⟩) [freshE E ⟨p,1,dt,md⟩]) dt md (inoOf (changeD (freshD E ⟨p,1,dt,md⟩) [freshE E ⟨p,1,dt,md⟩]).inos e9.kind))/\Turn bg W w'):=hid (fun W hW=>by
      have:=write_any bg e9.kind (inoOf (changeD (freshD E ⟨p,1,dt,md⟩) [freshE E ⟨p,1,dt,md⟩]).inos e9.kind) dt md cz W ((hW.block _ (Array.getElem?_eq_some_iff.1 aE).1).trans aE);rw[HY.out,← bl]at this;rw[<- bl]
      exact this)
     have aZ:=hid aH;have l0:=cell_regrown k0;have l5:=cell_regrown k5;clear aD cr aH bl bz aE k0 k5;repeat (first|go_skip|go_guarded|go_step|go_upon)
     with_reducible refine QT.region_tail 12 (by kernel_rfl) (by kernel_rfl) ?_
     simp only[take_succ_cons,take_zero,drop_succ_cons,drop_zero];repeat (go_big_quiet_step (first|(go_at_call 65;exact D7.out _ _)))
     refine wpQuiet_nil ?_;intro _ hw';obtain⟨⟨cg,bp⟩,ak⟩:=hw';subst ak;have B9:=hid (below_regrown w9 cg bp);clear l0 l5;generalize Go.Sort.grow (redrawn w9 cg) bp=w10 at B9 ⊢;repeat (first|go_skip|go_guarded|go_step|go_upon)
     refine(da.out w10 B9.out).mono ?_;rintro r eI ⟨rfl,bo,aQ⟩;simp only[];have dv:=hid (diskX_ino (f:=wroteI (changeD (freshD E ⟨p,1,dt,md⟩) [freshE E ⟨p,1,dt,md⟩]) dt md) (H9.out.below B9.out) aN.out (by rw[aZ.out];exact aQ) (by rw[aZ.out];exact bo) (stand_data az.out.2.1))
     have cq:Hid (S9 bg):=hid (by
      rw[<- aZ.out]
      exact H9.out.rest.iin e9 (mem_append_right _ (by unfold liveL;exact mem_append_left _ (find_mem aN.out).1)) be)
     have bN:=hid aQ;clear bo aQ;repeat (first|go_skip|go_guarded|go_step|go_upon)
     go_ret;rw[bU.out];refine⟨rfl,does_then av.out aw.out (((b8.out.thenBelow B9.out)).then bN.out (fun j hj hT=>?_)) br.out ⟨aI,x9,dv.out⟩⟩;subst hT;rcases br.out _ cq.out with h4|h4
     ·exact .inl h4
     ·omega
    ·have ba:(k==0)=false:=by simpa using bn
     have bU:Hid (Z=(DP.setI E p (wroteI E dt md),0)):=hid (by
      rw[aK.out];unfold wroteD
      rw[if_neg (by rw[HK.out];exact bn)])
     obtain⟨e9,bq,_,be,_⟩:=kindD_ino (path_ne az.out.1) aj.out.fit (by rw[HK.out];exact bn);have aN:=hid bq;have b8:Hid (Out (fun k=>S1 k\/k=P) w1 w7):=hid ((Out.refl _ w1).thenBelow B7.out);have br:Hid (∀ k,S1 k->S1 k\/w1.heap.size<=k):=hid (fun k hk=>.inl hk);have H9:=D7;obtain⟨S9,eH⟩:∃ T,S1=T:=⟨_,rfl⟩;obtain⟨aI,bA⟩:∃ T,adr=T:=⟨_,rfl⟩;obtain⟨x9,bV⟩:∃ T,x=T:=⟨_,rfl⟩;rw[bA,bV]at H9;clear D7 bq bn;subst eH bA bV;obtain⟨w9,fi⟩:∃ T,w7=T:=⟨_,rfl⟩;subst fi;obtain⟨d4,bR,aD,_⟩:=layE_own H9.out.rest.names;obtain⟨n9,cr⟩:∃ n,(E).names.length=n:=⟨_,rfl⟩;rw[cr]at aD;obtain⟨bg,aH⟩:∃ g,adr e9.kind=g:=⟨_,rfl⟩;obtain⟨cz,bl⟩:∃ c,(E).clock=c:=⟨_,rfl⟩;have bz:=H9.out.row;unfold diskC at bz;rw[aD,bl]at bz;obtain⟨k0,-,-,-,-,k5,-,-,-,-⟩:=row9 bz;have aE:=H9.out.rest.inos e9 (mem_append_right _ (by unfold liveL;exact mem_append_left _ (find_mem aN.out).1)) be;rw[aH]at aE
     have D7:=hid (reg_g (w:=w7) (f:=65) (args:=#[.slice d4 n9 bR,.string X]) (v:=.pointer (some ⟨bg,0,none⟩)) (fun W hW=>by
      have:=at_there (H9.out.below hW) p HP.out (path_ne az.out.1) aN.out be;rw[aD,HX.out,aH]at this
      exact this))
     have da:Hid (∀ W,Below w7.heap.size w7 W->Calls Tryz.prog 66 #[.pointer (some ⟨bg,0,none⟩),.string Y,.int .i64 md,.int .i64 cz] W fun r w'=>r=.returned (.tuple #[])/\InoAt w' bg e9.kind (wroteI (E) dt md (inoOf (E).inos e9.kind))/\Turn bg W w'):=hid (fun W hW=>by
      have:=write_any bg e9.kind (inoOf (E).inos e9.kind) dt md cz W ((hW.block _ (Array.getElem?_eq_some_iff.1 aE).1).trans aE);rw[HY.out,← bl]at this;rw[<- bl]
      exact this)
     have aZ:=hid aH;have l0:=cell_regrown k0;have l5:=cell_regrown k5;clear aD cr aH bl bz aE k0 k5;repeat (first|go_skip|go_guarded|go_step|go_upon)
     with_reducible refine QT.region_tail 12 (by kernel_rfl) (by kernel_rfl) ?_
     simp only[take_succ_cons,take_zero,drop_succ_cons,drop_zero];repeat (go_big_quiet_step (first|(go_at_call 65;exact D7.out _ _)))
     refine wpQuiet_nil ?_;intro _ hw';obtain⟨⟨cg,bp⟩,ak⟩:=hw';subst ak;have B9:=hid (below_regrown w7 cg bp);clear l0 l5;generalize Go.Sort.grow (redrawn w7 cg) bp=w10 at B9 ⊢;repeat (first|go_skip|go_guarded|go_step|go_upon)
     refine(da.out w10 B9.out).mono ?_;rintro r eI ⟨rfl,bo,aQ⟩;simp only[];have dv:=hid (diskX_ino (f:=wroteI (E) dt md) (H9.out.below B9.out) aN.out (by rw[aZ.out];exact aQ) (by rw[aZ.out];exact bo) (stand_data az.out.2.1))
     have cq:Hid (S1 bg):=hid (by
      rw[<- aZ.out]
      exact H9.out.rest.iin e9 (mem_append_right _ (by unfold liveL;exact mem_append_left _ (find_mem aN.out).1)) be)
     have bN:=hid aQ;clear bo aQ;repeat (first|go_skip|go_guarded|go_step|go_upon)
     go_ret;rw[bU.out];refine⟨rfl,does_then av.out aw.out (((b8.out.thenBelow B9.out)).then bN.out (fun j hj hT=>?_)) br.out ⟨adr,x,dv.out⟩⟩;subst hT;rcases br.out _ cq.out with h4|h4
     ·exact .inl h4
     ·omega
   ·have bj:(e0 != 0)=true:=by simpa using ab
    have aK:Hid (Z=(E,e0)):=hid (by rw[HZ.out,aP.out];unfold refuse;rw[if_neg ab]);clear ab;repeat (first|go_skip|go_guarded|go_step|go_upon)
    go_ret;rw[aK.out];exact⟨rfl,does_below av.out aw.out ⟨adr,x,aj.out⟩ B7.out⟩
 ·have HZ:=hid (a9.out h0);have bj:(er != 0)=true:=by simpa using h0
  clear am aq ac h0;repeat (first|go_skip|go_guarded|go_step|go_upon)
  go_ret;rw[HZ.out];exact⟨rfl,av.out,S1,aw.out,adr,x,aj.out⟩
end DG
end
section
open Go.RowKit Go.Lib Go.BigFrame
namespace DG
open OM TP TM DP DM TG TR FP
theorem dsync_any(S:Nat->Prop)(w:World)(P m:Nat)(D:Dk)(p:List UInt8)(h:Disk S w P D)(he:NF.Env w)(hH:Hi S P)(hm:Num m D)(hm2:m<=100000)(hp:p.length<=maxLen) :
  Calls Tryz.prog 50 #[.pointer (some ⟨P,0,none⟩),txt p] w fun r w'=>r=.returned (.int .i64 (syncD D p).2)/\Does S P w.heap.size w (syncD D p).1 w':=by
 obtain⟨X,hX,ax⟩:=txt_of p;obtain⟨E,hE⟩:∃ E,(stepD D ⟨cSync,p,[]⟩).1=E:=⟨_,rfl⟩;obtain⟨er,ah⟩:∃ e,(stepD D ⟨cSync,p,[]⟩).2=e:=⟨_,rfl⟩;have aa:=step_num hm ⟨cSync,p,[]⟩
 have CS:Hid (Calls Tryz.prog 56 #[.pointer (some ⟨P,0,none⟩),.string ⟨#[83,121,110,99]⟩,.string X,.string ⟨#[]⟩] w fun r w'=>r=.returned (.int .i64 er)/\Does S P w.heap.size w E w'):=hid (by
  have:=step_any S w P m D ⟨cSync,p,[]⟩ h he hH hm hm2;rw[hE,ah]at this;simp only at this;rw[hX]at this
  exact this)
 rw[hE]at aa
 have a9:Hid (er≠0->syncD D p=(E,er)):=hid (fun h0=>by
  unfold syncD
  rw[after_no (by rw[ah];exact h0),← hE,← ah])
 have aA:Hid (er=0->syncD D p=refuse (syncE E p) E (DP.setI E p syncI)):=hid (fun h0=>by
  unfold syncD
  rw[after_yes (by rw[ah];exact h0),← hE])
 have HE:=hid he;have HH:=hid hH;have HX:=hid hX;have bv:=hid ax;have aC:=hid hp
 have al:E.later.length<=1099511627776/\E.inos.length<=4611686018427387904:=by
  have a1:=aa.later;have a2:=aa.inos;have ba:m*2097152<=100000*2097152:=Nat.mul_le_mul_right _ hm2;have aO:m*2147483648<=100000*2147483648:=Nat.mul_le_mul_right _ hm2;constructor<;>omega
 obtain⟨Z,hZ⟩:∃ Z,syncD D p=Z:=⟨_,rfl⟩;rw[hZ]at a9 aA;rw[hZ,hX];clear h he hH hm hE ah aa al hZ hX ax hp;go_enter Tryz.func50,Tryz.ntmps50;repeat (first|go_skip|go_guarded|go_step|go_upon)
 refine CS.out.mono ?_;rintro r w1 ⟨rfl,am,S1,aq,adr,x,ac⟩;simp only[];have av:=hid am;have aw:=hid aq;have aj:=hid ac;by_cases h0:er=0
 ·have HZ:=hid (aA.out h0);obtain⟨ao,cap,ag,_⟩:=layE_own ac.rest.names;obtain⟨n,hn⟩:∃ n,E.names.length=n:=⟨_,rfl⟩;rw[hn]at ag;have hr:=ac.row;unfold diskC at hr;rw[ag]at hr;obtain⟨c0,-,-,-,-,-,-,-,-,-⟩:=row9 hr;have bf:=(Array.getElem?_eq_some_iff.1 hr).1;have E1:=hid (env_does HE.out am HH.out);have HV:=hid ag;have g0:=cell_regrown c0;have D6:=hid (fun b e=>when_g w1 b e);obtain⟨b1,ay⟩:∃ b,NP.pathL p=b:=⟨_,rfl⟩
  have D1:=hid (reg_g (w:=w1) (f:=60) (args:=#[.string X]) (v:=.bool b1) (fun W hW=>by
   have:=path_txt X p W (E1.out.below hW) bv.out aC.out;rw[ay]at this
   exact this))
  obtain⟨k,hk⟩:∃ k,kindD E p=k:=⟨_,rfl⟩
  have D2:=hid (reg_g (w:=w1) (f:=57) (args:=#[.slice ao n cap,.string X]) (v:=.int .i64 k) (fun W hW=>by
   have:=kind_of (aj.out.below hW) p aC.out;rw[HV.out,HX.out,hk]at this
   exact this))
  obtain⟨q0,bw⟩:∃ b,(k==0)=b:=⟨_,rfl⟩;obtain⟨e0,ab⟩:∃ e,syncE E p=e:=⟨_,rfl⟩;have HK:=hid hk
  have bc:Hid (firstE [whenE (!b1) 11,whenE q0 74]=e0):=hid (by
   rw[<- ab];unfold syncE;rw[ay,HK.out,← bw];have z2:decide (k=0)=(k==0):=by by_cases h:k=0<;>simp[h]
   rw[z2])
  have ap:Hid (e0=0->NP.pathL p=true/\kindD E p≠0):=hid (fun hz=>by
   have h1:=bc.out;rw[hz]at h1;obtain⟨z1,h1⟩:=first_cons h1;obtain⟨z2,h1⟩:=first_cons h1;have y1:=when_zero z1 (by omega);have y2:=when_zero z2 (by omega);rw[ay,hk];rw[<- bw]at y2;simp at y1 y2
   exact⟨y1,y2⟩)
  have aP:=hid ab;subst h0;clear am aq ac ag hn hr hk ay ab c0;repeat (first|go_skip|go_guarded|go_step|go_upon)
  with_reducible refine QT.region_tail 12 (by kernel_rfl) (by kernel_rfl) ?_
  simp only[take_succ_cons,take_zero,drop_succ_cons,drop_zero];repeat (go_big_quiet_step (first|(go_at_call 60;with_reducible exact D1.out _ _)|(go_at_call 57;with_reducible exact D2.out _ _)|(go_at_call 59;with_reducible exact D6.out _ _ _ _)))
  refine wpQuiet_nil ?_;intro _ hw';obtain⟨⟨dq,au⟩,ak⟩:=hw';subst ak;have B5:=hid (below_regrown w1 dq au);clear g0;generalize Go.Sort.grow (redrawn w1 dq) au=w5 at B5 ⊢;repeat (first|go_skip|go_guarded|go_step|go_upon)
  refine(first2 _ _ _ _ _ (heap_alloc_new w5 _)).mono ?_;rintro r w7 ⟨bd,aS⟩;have aG:=bd.trans (congrArg (fun z=>Ending.returned (.int .i64 z)) bc.out);subst aG;clear bd;simp only[];have B7:Hid (Below w1.heap.size w1 w7):=hid (aS ▸ B5.out.alloc B5.out.size _);clear aS;by_cases ab:e0=0
  ·subst ab;have az:=hid (ap.out rfl);have aK:Hid (Z=(DP.setI E p syncI,0)):=hid (by rw[HZ.out,aP.out];rfl);have D7:=hid (aj.out.below B7.out);have aG:=D7.out.row;unfold diskC at aG;rw[HV.out]at aG;obtain⟨k0,-,-,-,-,k5,-,-,-,-⟩:=row9 aG;obtain⟨e9,bq,_,be,_⟩:=kindD_ino (path_ne az.out.1) aj.out.fit az.out.2;have aN:=hid bq;obtain⟨gg,bm⟩:∃ g,adr e9.kind=g:=⟨_,rfl⟩;have aZ:=hid bm
   have CA:Hid (Calls Tryz.prog 65 #[.slice ao n cap,.string X] w7 fun r w'=>r=.returned (.pointer (some ⟨gg,0,none⟩))/\Below w7.heap.size w7 w'):=hid (by
    have:=at_there D7.out p aC.out (path_ne az.out.1) aN.out be;rw[HV.out,HX.out,bm]at this
    exact this)
   clear aG bq bm;repeat (first|go_skip|go_guarded|go_step|go_upon)
   refine CA.out.mono ?_;rintro r w8 ⟨rfl,bx⟩;simp only[];have B8:=hid (Below.trans B7.out (bx.mono B7.out.size));have D8:=hid (aj.out.below B8.out);have ar:e9∈[]++liveL E:=mem_append_right _ (by unfold liveL;exact mem_append_left _ (find_mem aN.out).1);have aX:=D8.out.rest.inos e9 ar be;have cq:Hid (S1 gg):=hid (aZ.out ▸ aj.out.rest.iin e9 ar be)
   have eN:Hid ((syncI (inoOf E.inos e9.kind)).data.length<=65536):=hid (by
    show(inoOf E.inos e9.kind).data.length<=_;obtain⟨kk,cI,ba,aO⟩:=live_row aj.out.fit (show e9∈liveL E by unfold liveL;exact mem_append_left _ (find_mem aN.out).1);unfold inoOf;rw[List.getD_eq_getElem?_getD,getElem?_eq_getElem (by omega)]
    exact aj.out.fit.data _ (List.getElem_mem _))
   rw[aZ.out]at aX;obtain⟨i9,dC⟩:∃ i,inoOf E.inos e9.kind=i:=⟨_,rfl⟩;rw[dC]at aX;obtain⟨Y9,bL,_⟩:=txt_of i9.data;unfold InoAt inoC at aX;rw[bL]at aX;obtain⟨-,-,-,-,-,fA,kf⟩:=row6 aX
   have cK:Hid (InoAt (w8.setCell ⟨gg,5,none⟩ (.bool false)) gg e9.kind (syncI (inoOf E.inos e9.kind))):=hid (by
    rw[dC];unfold InoAt inoC syncI;simp only;rw[bL]
    exact row_set (j:=5) aX _)
   have et:Hid (Turn gg w8 (w8.setCell ⟨gg,5,none⟩ (.bool false))):=hid ((Out.refl (fun k=>k=gg) w8).setCell (p:=⟨gg,5,none⟩) (fun _=>rfl) _);clear aX dC bx bL k0 k5;repeat (first|go_skip|go_guarded|go_step|go_upon)
   go_ret;rw[aK.out];refine⟨rfl,does_then (S2:=S1) av.out aw.out (((Out.refl _ w1).thenBelow B8.out).then et.out (fun j hj hT=>?_)) (fun k hk=>.inl hk) ⟨adr,x,diskX_ino (f:=syncI) D8.out aN.out (by rw[aZ.out];exact et.out) (by rw[aZ.out];exact cK.out) eN.out⟩⟩;subst hT;exact .inl cq.out
  ·have bj:(e0 != 0)=true:=by simpa using ab
   have aB:(e0==0)=false:=by simpa using ab
   have aK:Hid (Z=(E,e0)):=hid (by rw[HZ.out,aP.out];unfold refuse;rw[if_neg ab]);clear ab;repeat (first|go_skip|go_guarded|go_step|go_upon)
   go_ret;rw[aK.out];exact⟨rfl,does_below av.out aw.out ⟨adr,x,aj.out⟩ B7.out⟩
 ·have HZ:=hid (a9.out h0);have bj:(er != 0)=true:=by simpa using h0
  have aB:(er==0)=false:=by simpa using h0
  clear am aq ac h0;repeat (first|go_skip|go_guarded|go_step|go_upon)
  go_ret;rw[HZ.out];exact⟨rfl,av.out,S1,aw.out,adr,x,aj.out⟩
theorem dflush_any(S:Nat->Prop)(w:World)(P m:Nat)(D:Dk)(h:Disk S w P D)(he:NF.Env w)(hH:Hi S P)(hm:Num m D)(hm2:m<=100000) :
  Calls Tryz.prog 51 #[.pointer (some ⟨P,0,none⟩)] w fun r w'=>r=.returned (.int .i64 (flushD D).2)/\Does S P w.heap.size w (flushD D).1 w':=by
 obtain⟨E,hE⟩:∃ E,(stepD D ⟨cFlush,[],[]⟩).1=E:=⟨_,rfl⟩;obtain⟨er,ah⟩:∃ e,(stepD D ⟨cFlush,[],[]⟩).2=e:=⟨_,rfl⟩;have aa:=step_num hm ⟨cFlush,[],[]⟩
 have CS:Hid (Calls Tryz.prog 56 #[.pointer (some ⟨P,0,none⟩),.string ⟨#[70,108,117,115,104]⟩,.string ⟨#[]⟩,.string ⟨#[]⟩] w fun r w'=>r=.returned (.int .i64 er)/\Does S P w.heap.size w E w'):=hid (by
  have:=step_any S w P m D ⟨cFlush,[],[]⟩ h he hH hm hm2;rw[hE,ah]at this;simp only at this
  exact this)
 rw[hE]at aa
 have a9:Hid (er≠0->flushD D=(E,er)):=hid (fun h0=>by
  unfold flushD
  rw[after_no (by rw[ah];exact h0),← hE,← ah])
 have aA:Hid (er=0->flushD D=(settleD E,0)):=hid (fun h0=>by
  unfold flushD
  rw[after_yes (by rw[ah];exact h0),← hE])
 have al:E.later.length<=1099511627776/\E.inos.length<=4611686018427387904:=by
  have a1:=aa.later;have a2:=aa.inos;have ba:m*2097152<=100000*2097152:=Nat.mul_le_mul_right _ hm2;have aO:m*2147483648<=100000*2147483648:=Nat.mul_le_mul_right _ hm2;constructor<;>omega
 obtain⟨Z,hZ⟩:∃ Z,flushD D=Z:=⟨_,rfl⟩;rw[hZ]at a9 aA;rw[hZ];clear h he hH hm hE ah aa al hZ;go_enter Tryz.func51,Tryz.ntmps51;repeat (first|go_skip|go_guarded|go_step|go_upon)
 refine CS.out.mono ?_;rintro r w1 ⟨rfl,am,S1,aq,adr,x,ac⟩;simp only[];have av:=hid am;have aw:=hid aq;have aj:=hid ac;by_cases h0:er=0
 ·have HZ:Hid (Z=(settleD E,0)):=hid (aA.out h0);have CC:=hid (settle_any S1 w1 P E adr [] ⟨x,ac⟩);subst h0;clear am aq ac;repeat (first|go_skip|go_guarded|go_step|go_upon)
  refine CC.out.mono ?_;rintro r w2 ⟨rfl,⟨S2,b7,bP⟩,bM⟩;simp only[];repeat (first|go_skip|go_guarded|go_step|go_upon)
  go_ret;rw[HZ.out];exact⟨rfl,does_then av.out aw.out bM (fun k hk=>(b7 k hk).elim .inl (fun h=>h.elim False.elim .inr)) ⟨adr,bP⟩⟩
 ·have HZ:=hid (a9.out h0);have bj:(er != 0)=true:=by simpa using h0
  have aB:(er==0)=false:=by simpa using h0
  clear am aq ac h0;repeat (first|go_skip|go_guarded|go_step|go_upon)
  go_ret;rw[HZ.out];exact⟨rfl,av.out,S1,aw.out,adr,x,aj.out⟩
end DG
end
section
open Go.RowKit Go.Lib Go.BigFrame
namespace DG
open OM TP TM DP DM TG TR FP
theorem del_less{ns:List Nd}{p:List UInt8}{e:Nd}(h:findN ns p=some e):(delE ns p).length<ns.length:=by
 obtain⟨hm,hp⟩:=find_mem h;unfold delE;exact List.length_filter_lt_length_iff_exists.2 ⟨e,hm,by simp[hp]⟩
theorem chg_replace{S1:Nat->Prop}{W:World}{P:Nat}{E:Dk}{adr:Int->Nat}{x:Parts}{p q:List UInt8}{a b c:Value}{g:Nat}{e9:Nd}(h:DiskX S1 W P E adr [] x)(hg:g=W.heap.size)(ha:txt p=a)(hb:txt q=b)(hc:ptrV adr (inoN E.names p)=c)
  (hp:NP.pathL p=true) (hq:NP.pathL q=true) (he:findN E.names p=some e9) (hi:inoN E.names p=e9.kind) :
  ChgIn S1 (W.alloc (.cells #[a,.pointer none,b,c] 125)) E adr [] (some ⟨g,0,none⟩) [en p 0,en q (inoN E.names p)]:=by
 subst hg ha hb hc;have hn:=heap_alloc_new W (.cells #[txt p,.pointer none,txt q,ptrV adr (inoN E.names p)] 125);obtain⟨c0,c1,c2,c3,_⟩:=row4 hn;have ar:e9∈liveL E:=by unfold liveL;exact mem_append_left _ (find_mem he).1
 obtain⟨k,hk,ba,aO⟩:=live_row h.fit ar;refine⟨fun _=>⟨W.heap.size,0,rfl,by simp,fun j e hj=>?_⟩,⟨fun e he=>?_,fun e he=>?_⟩,fun a ha=>?_,fun j=>?_,by simp,fun e he h0=>?_⟩
 ·match j with
  | 0 =>
   simp at hj;subst hj;exact⟨c0,c1⟩
  | 1 =>
   simp at hj;subst hj;exact⟨c2,c3⟩
  | j+2=>simp at hj
 ·rcases List.mem_cons.1 he with rfl|he
  ·exact hp
  ·rw[List.mem_singleton.1 he];exact hq
 ·rcases List.mem_cons.1 he with rfl|he
  ·exact⟨0,rfl,Nat.zero_le _⟩
  ·rw[List.mem_singleton.1 he];exact⟨k,by rw[hi,hk];rfl,aO⟩
 ·injection ha with ha;subst ha;refine⟨⟨_,_,hn⟩,fun hS=>?_⟩;have:=h.lt _ hS;simp at this
 ·have hl:=h.fit.names.len;have hd:=del_less he
  match j with
  | 0=>exact hl
  | 1 =>
   show(putE E.names (en p 0)).length<=1000;have:putE E.names (en p 0)=delE E.names p:=if_pos rfl;rw[this];omega
  | j+2 =>
   have h1:=with_len (delE E.names p) [en q (inoN E.names p)]
   have h2:withE E.names ([en p 0,en q (inoN E.names p)].take (j+2))=withE (delE E.names p) [en q (inoN E.names p)]:=by
    have e1:[en p 0,en q (inoN E.names p)].take (j+2)=[en p 0,en q (inoN E.names p)]:=by simp
    rw[e1];show withE (putE E.names (en p 0)) _=_;rw[show putE E.names (en p 0)=delE E.names p from if_pos rfl]
   rw[h2];have h3:[en q (inoN E.names p)].length=1:=rfl;omega
 ·rcases List.mem_cons.1 he with rfl|he
  ·exact absurd rfl h0
  ·rw[List.mem_singleton.1 he];exact⟨e9,mem_append_right _ ar,hi.symm⟩
theorem dreplace_any(S:Nat->Prop)(w:World)(P m:Nat)(D:Dk)(p q:List UInt8)(h:Disk S w P D)(he:NF.Env w)(hH:Hi S P)(hm:Num m D)(hm2:m<=100000)(hp:p.length<=maxLen)(hq:q.length<=maxLen) :
  Calls Tryz.prog 49 #[.pointer (some ⟨P,0,none⟩),txt p,txt q] w fun r w'=>r=.returned (.int .i64 (replaceD D p q).2)/\Does S P w.heap.size w (replaceD D p q).1 w':=by
 obtain⟨X,hX,ax⟩:=txt_of p;obtain⟨V,hV,cG⟩:=txt_of q;obtain⟨E,hE⟩:∃ E,(stepD D ⟨cReplace,p,q⟩).1=E:=⟨_,rfl⟩;obtain⟨er,ah⟩:∃ e,(stepD D ⟨cReplace,p,q⟩).2=e:=⟨_,rfl⟩;have aa:=step_num hm ⟨cReplace,p,q⟩
 have CS:Hid (Calls Tryz.prog 56 #[.pointer (some ⟨P,0,none⟩),.string ⟨#[82,101,112,108,97,99,101]⟩,.string X,.string V] w fun r w'=>r=.returned (.int .i64 er)/\Does S P w.heap.size w E w'):=hid (by
  have:=step_any S w P m D ⟨cReplace,p,q⟩ h he hH hm hm2;rw[hE,ah]at this;simp only at this;rw[hX]at this;rw[hV]at this
  exact this)
 rw[hE]at aa
 have a9:Hid (er≠0->replaceD D p q=(E,er)):=hid (fun h0=>by
  unfold replaceD
  rw[after_no (by rw[ah];exact h0),← hE,← ah])
 have aA:Hid (er=0->replaceD D p q=refuse (replaceE E p q) E (changeD E [en p 0,en q (inoN E.names p)])):=hid (fun h0=>by
  unfold replaceD
  rw[after_yes (by rw[ah];exact h0),← hE])
 have HE:=hid he;have HH:=hid hH;have HX:=hid hX;have bv:=hid ax;have aC:=hid hp;have cZ:=hid hV;have eg:=hid cG;have dj:=hid hq
 have al:E.later.length<=1099511627776/\E.inos.length<=4611686018427387904:=by
  have a1:=aa.later;have a2:=aa.inos;have ba:m*2097152<=100000*2097152:=Nat.mul_le_mul_right _ hm2;have aO:m*2147483648<=100000*2147483648:=Nat.mul_le_mul_right _ hm2;constructor<;>omega
 have bk:=hid al;obtain⟨Z,hZ⟩:∃ Z,replaceD D p q=Z:=⟨_,rfl⟩;rw[hZ]at a9 aA;rw[hZ,hX,hV];clear h he hH hm hE ah aa al hZ hX ax hp hV cG hq;go_enter Tryz.func49,Tryz.ntmps49;repeat (first|go_skip|go_guarded|go_step|go_upon)
 refine CS.out.mono ?_;rintro r w1 ⟨rfl,am,S1,aq,adr,x,ac⟩;simp only[];have av:=hid am;have aw:=hid aq;have aj:=hid ac;by_cases h0:er=0
 ·have HZ:=hid (aA.out h0);obtain⟨ao,cap,ag,_⟩:=layE_own ac.rest.names;obtain⟨n,hn⟩:∃ n,E.names.length=n:=⟨_,rfl⟩;rw[hn]at ag;have hr:=ac.row;unfold diskC at hr;rw[ag]at hr;obtain⟨c0,-,-,-,-,-,-,-,-,-⟩:=row9 hr;have bf:=(Array.getElem?_eq_some_iff.1 hr).1;have E1:=hid (env_does HE.out am HH.out);have HV:=hid ag;have fx:=cZ;have g0:=cell_regrown c0;have D6:=hid (fun b e=>when_g w1 b e);obtain⟨b1,ay⟩:∃ b,NP.pathL p=b:=⟨_,rfl⟩
  have D1:=hid (reg_g (w:=w1) (f:=60) (args:=#[.string X]) (v:=.bool b1) (fun W hW=>by
   have:=path_txt X p W (E1.out.below hW) bv.out aC.out;rw[ay]at this
   exact this))
  obtain⟨b3,aW⟩:∃ b,NP.pathL q=b:=⟨_,rfl⟩
  have D3:=hid (reg_g (w:=w1) (f:=60) (args:=#[.string V]) (v:=.bool b3) (fun W hW=>by
   have:=path_txt V q W (E1.out.below hW) eg.out dj.out;rw[aW]at this
   exact this))
  obtain⟨k,hk⟩:∃ k,kindD E p=k:=⟨_,rfl⟩
  have D2:=hid (reg_g (w:=w1) (f:=57) (args:=#[.slice ao n cap,.string X]) (v:=.int .i64 k) (fun W hW=>by
   have:=kind_of (aj.out.below hW) p aC.out;rw[HV.out,HX.out,hk]at this
   exact this))
  obtain⟨k2,aO⟩:∃ k,kindD E q=k:=⟨_,rfl⟩
  have D5:=hid (reg_g (w:=w1) (f:=57) (args:=#[.slice ao n cap,.string V]) (v:=.int .i64 k2) (fun W hW=>by
   have:=kind_of (aj.out.below hW) q dj.out;rw[HV.out,cZ.out,aO]at this
   exact this))
  obtain⟨b4,aL⟩:∃ b,upB E q=b:=⟨_,rfl⟩
  have D4:=hid (reg_g (w:=w1) (f:=62) (args:=#[.pointer (some ⟨P,0,none⟩),.string V]) (v:=.bool b4) (fun W hW=>by
   have:=up_any S1 W P E adr [] q ⟨x,aj.out.below hW⟩ (E1.out.below hW) dj.out;rw[aL,cZ.out]at this
   exact this))
  obtain⟨q0,bw⟩:∃ b,(k==0)=b:=⟨_,rfl⟩;obtain⟨q2,d1⟩:∃ b,(k==2)=b:=⟨_,rfl⟩;obtain⟨q3,cP⟩:∃ b,(k2==2)=b:=⟨_,rfl⟩;obtain⟨qe,fl⟩:∃ b,(V.toList==X.toList)=b:=⟨_,rfl⟩;obtain⟨e0,ab⟩:∃ e,replaceE E p q=e:=⟨_,rfl⟩;have HK:=hid hk
  have bc:Hid (firstE [whenE (!b1||!b3) 11,whenE qe 2,whenE q0 74,whenE (q2||q3) 73,whenE (!b4) 62]=e0):=hid (by
   rw[<- ab];unfold replaceE;rw[ay,aW,aL,HK.out,aO,← bw,← d1,← cP,← fl];have z0:decide (k=0)=(k==0):=by by_cases h:k=0<;>simp[h]
   have z2:decide (k=2)=(k==2):=by by_cases h:k=2<;>simp[h]
   have z3:decide (k2=2)=(k2==2):=by by_cases h:k2=2<;>simp[h]
   have z4:decide (q=p)=(V.toList==X.toList):=by
    rw[toList_data,toList_data,eg.out,bv.out];by_cases h:q=p<;>simp[h]
   rw[z0,z2,z3,z4])
  have ap:Hid (e0=0->NP.pathL p=true/\NP.pathL q=true/\kindD E p≠0):=hid (fun hz=>by
   have h1:=bc.out;rw[hz]at h1;obtain⟨z1,h1⟩:=first_cons h1;obtain⟨_,h1⟩:=first_cons h1;obtain⟨z2,h1⟩:=first_cons h1;have y1:=when_zero z1 (by omega);have y2:=when_zero z2 (by omega);rw[ay,aW,hk];rw[<- bw]at y2;simp at y1 y2
   exact⟨y1.1,y1.2,y2⟩)
  have aP:=hid ab;subst h0;clear am aq ac ag hn hr hk aO ay aW aL ab c0;cases b1<;>cases q2
  all_goals
   repeat (first|go_skip|go_guarded|go_step|go_upon)
   with_reducible refine QT.region_tail 43 (by kernel_rfl) (by kernel_rfl) ?_
   simp only[take_succ_cons,take_zero,drop_succ_cons,drop_zero];repeat (go_big_quiet_step (first|(go_at_call 60;with_reducible exact D1.out _ _)|(go_at_call 60;with_reducible exact D3.out _ _)|(go_at_call 57;with_reducible exact D2.out _ _)|(go_at_call 57;with_reducible exact D5.out _ _)|(go_at_call 62;with_reducible exact D4.out _ _)|(go_at_call 59;with_reducible exact D6.out _ _ _ _)))
   refine wpQuiet_nil ?_;intro _ hw';obtain⟨⟨dq,au⟩,ak⟩:=hw';subst ak;have B5:=hid (below_regrown w1 dq au);clear g0;generalize Go.Sort.grow (redrawn w1 dq) au=w5 at B5 ⊢;repeat (first|go_skip|go_guarded|go_step|go_upon)
   refine(first5 _ _ _ _ _ _ _ _ (heap_alloc_new w5 _)).mono ?_;rintro r w7 ⟨bd,aS⟩;have aG:=bd.trans (congrArg (fun z=>Ending.returned (.int .i64 z)) bc.out);subst aG;clear bd;simp only[];have B7:Hid (Below w1.heap.size w1 w7):=hid (aS ▸ B5.out.alloc B5.out.size _);clear aS;by_cases ab:e0=0
   ·subst ab;have az:=hid (ap.out rfl);have aK:Hid (Z=(changeD E [en p 0,en q (inoN E.names p)],0)):=hid (by rw[HZ.out,aP.out];rfl);have D7:=hid (aj.out.below B7.out);have aG:=D7.out.row;unfold diskC at aG;rw[HV.out]at aG;obtain⟨k0,-,-,-,-,k5,-,-,-,-⟩:=row9 aG;obtain⟨e9,bq,eJ,be,bE,_⟩:=kindD_ino (path_ne az.out.1) aj.out.fit az.out.2.2;have aN:=hid bq;obtain⟨gg,bm⟩:∃ g,adr e9.kind=g:=⟨_,rfl⟩;have aZ:=hid bm
    have CA:Hid (Calls Tryz.prog 65 #[.slice ao n cap,.string X] w7 fun r w'=>r=.returned (.pointer (some ⟨gg,0,none⟩))/\Below w7.heap.size w7 w'):=hid (by
     have:=at_there D7.out p aC.out (path_ne az.out.1) aN.out be;rw[HV.out,HX.out,bm]at this
     exact this)
    have cK:=hid bE;clear aG bq bm bE eJ;repeat (first|go_skip|go_guarded|go_step|go_upon)
    refine CA.out.mono ?_;rintro r w8 ⟨rfl,bx⟩;simp only[];have B8:=hid (Below.trans B7.out (bx.mono B7.out.size));have D8:=hid (aj.out.below B8.out);clear bx;have bK:Hid (ChgIn S1 (w8.alloc (.cells #[.string X,.pointer none,.string V,.pointer (some ⟨gg,0,none⟩)] 125)) E adr [] (some ⟨w8.heap.size,0,none⟩) [en p 0,en q (inoN E.names p)]):=hid (chg_replace D8.out rfl HX.out fx.out (by rw[cK.out,ptr_pos adr be,aZ.out]) az.out.1 az.out.2.1 aN.out cK.out);repeat (first|go_skip|go_guarded|go_step|go_upon)
    refine(change_any S1 _ P E adr [] _ 2 [en p 0,en q (inoN E.names p)] ⟨x,D8.out.below ((Below.refl _ _).alloc (Nat.le_refl _) _)⟩ bK.out bk.out.1).mono ?_;rintro r w9 ⟨rfl,⟨S9,bh,bs⟩,bt⟩;simp only[];have b8:=hid bt;have br:=hid bh;have cU:=hid bs;clear bt bh bs;repeat (first|go_skip|go_guarded|go_step|go_upon)
    go_ret;rw[aK.out];have bI:=B8.out.size;refine⟨rfl,does_then av.out aw.out ((((Out.refl _ w1).thenBelow B8.out).alloc _).then b8.out (fun j hj hT=>hT.imp (·.1) id)) (fun k hk=>?_) ⟨adr,cU.out⟩⟩;have bS:(w8.alloc (.cells #[.string X,.pointer none,.string V,.pointer (some ⟨gg,0,none⟩)] 125)).heap.size=w8.heap.size+1:=by simp
    rcases br.out k hk with h4|⟨a,h4,h5⟩|h4
    ·exact .inl h4
    ·injection h4 with h4;subst h4;exact .inr (by simp only at h5;omega)
    ·exact .inr (by omega)
   ·have bj:(e0 != 0)=true:=by simpa using ab
    have aB:(e0==0)=false:=by simpa using ab
    have aK:Hid (Z=(E,e0)):=hid (by rw[HZ.out,aP.out];unfold refuse;rw[if_neg ab]);clear ab;repeat (first|go_skip|go_guarded|go_step|go_upon)
    go_ret;rw[aK.out];exact⟨rfl,does_below av.out aw.out ⟨adr,x,aj.out⟩ B7.out⟩
 ·have HZ:=hid (a9.out h0);have bj:(er != 0)=true:=by simpa using h0
  have aB:(er==0)=false:=by simpa using h0
  clear am aq ac h0;repeat (first|go_skip|go_guarded|go_step|go_upon)
  go_ret;rw[HZ.out];exact⟨rfl,av.out,S1,aw.out,adr,x,aj.out⟩
end DG
end
section
open Go.RowKit Go.Lib Go.BigFrame
namespace DG
open OM TP TM DP DM TG TR FP
theorem dlay_any(S1:Nat->Prop)(w0:World)(P:Nat)(E:Dk)(adr:Int->Nat)(x:Parts)(nd:Nd)(h:DiskX S1 w0 P E adr [] x)(he:NF.Env w0)(al:E.later.length<=1099511627776/\E.inos.length<=4611686018427387904)(hp:nd.path.length<=maxLen) :
  Calls Tryz.prog 128 #[.pointer (some ⟨P,0,none⟩),ndVal nd] w0 fun r w'=>r=.returned (.int .i64 (layE E nd))/\Does S1 P w0.heap.size w0 (if layE E nd=0 then laidD E nd else E) w':=by
 obtain⟨p,kd,dt,md⟩:=nd;simp only at hp;obtain⟨X,hX,ax⟩:=txt_of p;obtain⟨Y,hY,_⟩:=txt_of dt;have bk:=hid al;have aC:=hid hp;have HX:=hid hX;have bv:=hid ax;have HY:=hid hY;have B0:Hid (Below w0.heap.size w0 (w0.alloc (.cells #[.string X,.int .i64 kd,.string Y,.int .i64 md] 45))):=hid ((Below.refl _ _).alloc (Nat.le_refl _) _);have R0:=hid (heap_alloc_new w0 (.cells #[.string X,.int .i64 kd,.string Y,.int .i64 md] 45));have aj:=hid (h.below B0.out);have E1:=hid (he.below B0.out);obtain⟨w1,bW⟩:∃ W,w0.alloc (.cells #[.string X,.int .i64 kd,.string Y,.int .i64 md] 45)=W:=⟨_,rfl⟩;rw[bW]at B0 R0 aj E1;have ac:=aj.out;obtain⟨ao,cap,ag,_⟩:=layE_own ac.rest.names;obtain⟨n,hn⟩:∃ n,E.names.length=n:=⟨_,rfl⟩;rw[hn]at ag;have hr:=ac.row;unfold diskC at hr;rw[ag]at hr;obtain⟨c0,-,-,-,-,-,-,-,-,-⟩:=row9 hr;have HV:=hid ag;have g0:=cell_regrown c0;obtain⟨t0,t1,t2,t3,-⟩:=row4 R0.out;have g4:=cell_regrown t0;have g5:=cell_regrown t1;have g6:=cell_regrown t2;have g7:=cell_regrown t3;have D6:=hid (fun b e=>when_g w1 b e);obtain⟨b1,ay⟩:∃ b,NP.pathL p=b:=⟨_,rfl⟩
 have D1:=hid (reg_g (w:=w1) (f:=60) (args:=#[.string X]) (v:=.bool b1) (fun W hW=>by
  have:=path_txt X p W (E1.out.below hW) bv.out aC.out;rw[ay]at this
  exact this))
 obtain⟨k,hk⟩:∃ k,kindD E p=k:=⟨_,rfl⟩
 have D2:=hid (reg_g (w:=w1) (f:=57) (args:=#[.slice ao n cap,.string X]) (v:=.int .i64 k) (fun W hW=>by
  have:=kind_of (aj.out.below hW) p aC.out;rw[HV.out,HX.out,hk]at this
  exact this))
 obtain⟨b3,aW⟩:∃ b,upB E p=b:=⟨_,rfl⟩
 have D4:=hid (reg_g (w:=w1) (f:=62) (args:=#[.pointer (some ⟨P,0,none⟩),.string X]) (v:=.bool b3) (fun W hW=>by
  have:=up_any S1 W P E adr [] p ⟨x,aj.out.below hW⟩ (E1.out.below hW) aC.out;rw[aW,HX.out]at this
  exact this))
 obtain⟨b2,b9⟩:∃ b,standB ⟨p,kd,dt,md⟩=b:=⟨_,rfl⟩;obtain⟨b4,aL⟩:∃ b,roomB E p=b:=⟨_,rfl⟩
 have D3:=hid (reg_g (w:=w1) (f:=61) (args:=#[.agg #[.string X,.int .i64 kd,.string Y,.int .i64 md]]) (v:=.bool b2) (fun W hW=>by
  have:=stand_any ⟨p,kd,dt,md⟩ W (E1.out.below hW);unfold ndVal at this;rw[b9]at this;simp only at this;rw[HX.out,HY.out]at this
  exact this))
 have D5:=hid (reg_g (w:=w1) (f:=63) (args:=#[.pointer (some ⟨P,0,none⟩),.string X]) (v:=.bool b4) (fun W hW=>by
  have:=room_any S1 W P E adr [] p ⟨x,aj.out.below hW⟩ aC.out;rw[aL,HX.out]at this
  exact this))
 obtain⟨q0,bw⟩:∃ b,(k != 0)=b:=⟨_,rfl⟩;obtain⟨e0,ab⟩:∃ e,layE E ⟨p,kd,dt,md⟩=e:=⟨_,rfl⟩;have HK:=hid hk
 have bc:Hid (firstE [whenE (!b1) 11,whenE (!b2) 2,whenE (!b3) 62,whenE q0 72,whenE (!b4) 71]=e0):=hid (by
  rw[<- ab];unfold layE;simp only;rw[ay,b9,aW,aL,HK.out,← bw];have z2:(!decide (k=0))=(k != 0):=by by_cases h:k=0<;>simp[h]
  rw[z2])
 have ap:Hid (e0=0->NP.pathL p=true/\standB ⟨p,kd,dt,md⟩=true/\roomB E p=true/\kindD E p=0):=hid (fun hz=>by
  have h1:=bc.out;rw[hz]at h1;obtain⟨z1,h1⟩:=first_cons h1;obtain⟨z2,h1⟩:=first_cons h1;obtain⟨_,h1⟩:=first_cons h1;obtain⟨z4,h1⟩:=first_cons h1;obtain⟨z5,_⟩:=first_cons h1;have y1:=when_zero z1 (by omega);have y2:=when_zero z2 (by omega);have y4:=when_zero z4 (by omega);have y5:=when_zero z5 (by omega);rw[ay,b9,aL,HK.out];rw[<- bw]at y4;simp at y1 y2 y4 y5
  exact⟨y1,y2,y5,y4⟩)
 rw[ab];obtain⟨FD,bY⟩:∃ F:Dk,(if e0=0 then laidD E ⟨p,kd,dt,md⟩else E)=F:=⟨_,rfl⟩;have dN:=hid bY;rw[bY];unfold ndVal;simp only;rw[hX,hY];clear bY h he al hp hX ax hY ag hn hr hk ay b9 aW aL ab c0 t0 t1 t2 t3 ac;go_enter Tryz.func128,Tryz.ntmps128;repeat (first|go_skip|go_guarded|go_step|go_upon)
 clear bW;repeat (first|go_skip|go_guarded|go_step|go_upon)
 with_reducible refine QT.region_tail 30 (by kernel_rfl) (by kernel_rfl) ?_
 simp only[take_succ_cons,take_zero,drop_succ_cons,drop_zero];repeat (go_big_quiet_step (first|(go_at_call 60;with_reducible exact D1.out _ _)|(go_at_call 61;with_reducible exact D3.out _ _)|(go_at_call 62;with_reducible exact D4.out _ _)|(go_at_call 63;with_reducible exact D5.out _ _)|(go_at_call 57;with_reducible exact D2.out _ _)|(go_at_call 59;with_reducible exact D6.out _ _ _ _)))
 refine wpQuiet_nil ?_;intro _ hw';obtain⟨⟨dq,au⟩,ak⟩:=hw';subst ak;have B5:=hid (below_regrown w1 dq au);clear g0 g4 g5 g6 g7;generalize Go.Sort.grow (redrawn w1 dq) au=w5 at B5 ⊢;repeat (first|go_skip|go_guarded|go_step|go_upon)
 refine(first5 _ _ _ _ _ _ _ _ (heap_alloc_new w5 _)).mono ?_;rintro r w7 ⟨bd,aS⟩;have aG:=bd.trans (congrArg (fun z=>Ending.returned (.int .i64 z)) bc.out);subst aG;clear bd;simp only[];have B7:Hid (Below w1.heap.size w1 w7):=hid (aS ▸ B5.out.alloc B5.out.size _);clear aS;have R7:=hid ((B7.out.block _ (Array.getElem?_eq_some_iff.1 R0.out).1).trans R0.out);by_cases ab:e0=0
 ·subst ab;have az:=hid (ap.out rfl);have D7:=hid (aj.out.below B7.out)
  have HL:Hid (E.names.length<1000):=hid (by
   have:=az.out.2.2.1;unfold roomB at this;rw[az.out.2.2.2]at this;simp at this
   omega)
  obtain⟨t0,t1,t2,t3,-⟩:=row4 R7.out;have dE:Hid (FD=laidD E ⟨p,kd,dt,md⟩):=hid (by rw[<- dN.out,if_pos rfl]);repeat (first|go_skip|go_guarded|go_step|go_upon)
  have CF:=fresh_any S1 w7 P E adr [] ⟨p,kd,dt,md⟩ ⟨x,D7.out⟩ (fun e he=>by cases he) (stand_data az.out.2.1) bk.out.2;unfold ndVal at CF;simp only at CF;rw[HX.out,HY.out]at CF;refine CF.mono ?_;rintro r w8 ⟨gg,bm,rfl,b6,c7⟩;clear CF;simp only[];obtain⟨aI,aJ⟩:∃ a,updA adr (E.inos.length+1) gg=a:=⟨_,rfl⟩
  have bT:ptrV aI (freshE E ⟨p,kd,dt,md⟩).kind=.pointer (some ⟨gg,0,none⟩):=by
   rw[<- aJ];unfold ptrV;rw[show(freshE E ⟨p,kd,dt,md⟩).kind=((E.inos.length+1:Nat):Int) from rfl,if_neg (by omega),updA_new]
  have cD:enV (updA adr (E.inos.length+1) gg) (freshE E ⟨p,kd,dt,md⟩)=.agg #[.string X,.pointer (some ⟨gg,0,none⟩)]:=by
   unfold enV;rw[aJ,bT,show(freshE E ⟨p,kd,dt,md⟩).path=p from rfl,HX.out]
  rw[cD];rw[aJ]at b6;have bK:=hid (chg_fresh (g:=w8.heap.size) b6 aj.out.fit.names az.out.1 HL.out rfl HX.out bT);have dz:=hid b6;have bH:=hid c7;have cu:=hid bm;clear b6 c7 cD bT aJ bm;repeat (first|go_skip|go_guarded|go_step|go_upon)
  refine(change_any _ _ P _ aI _ _ 1 [freshE E ⟨p,kd,dt,md⟩] (by obtain⟨x8,h8⟩:=dz.out;exact⟨x8,h8.below ((Below.refl _ _).alloc (Nat.le_refl _) _)⟩) bK.out bk.out.1).mono ?_;rintro r w9 ⟨rfl,⟨S9,bh,bs⟩,bt⟩;simp only[];have H9:=hid (diskA_pend (pend':=[]) bs (fun e he=>by cases he));have cJ:=B0.out.size
  have b8:Hid (Out (fun k=>S1 k\/k=P) w0 w9):=hid (by
   have bJ:=B7.out.size;have bI:=bH.out.size;refine((((((Out.refl _ w0).thenBelow B0.out).thenBelow B7.out).then bH.out (fun j hj hT=>.inr hT))).alloc _).then bt (fun j hj hT=>?_);rcases hT with ⟨hT|hT,_⟩|hT
   ·exact .inl hT
   ·have:=cu.out;omega
   ·exact .inr hT)
  have br:Hid (∀ k,S9 k->S1 k\/w0.heap.size<=k):=hid (fun k hk=>by
   have bJ:=B7.out.size;have bI:=bH.out.size;have fj:=cu.out;have bS:(w8.alloc (.cells #[.string X,.pointer (some ⟨gg,0,none⟩)] 125)).heap.size=w8.heap.size+1:=by simp
   rcases bh k hk with (h4|h4)|⟨a,h4,h5⟩|h4
   ·exact .inl h4
   ·exact .inr (by omega)
   ·injection h4 with h4;subst h4;exact .inr (by simp only at h5;omega)
   ·exact .inr (by omega))
  clear bh bs bt;repeat (first|go_skip|go_guarded|go_step|go_upon)
  go_ret;rw[dE.out];exact⟨rfl,b8.out,S9,br.out,aI,H9.out⟩
 ·have bj:(e0 != 0)=true:=by simpa using ab
  have aB:(e0==0)=false:=by simpa using ab
  have dE:Hid (FD=E):=hid (by rw[<- dN.out,if_neg ab]);clear ab;repeat (first|go_skip|go_guarded|go_step|go_upon)
  go_ret;rw[dE.out];exact⟨rfl,((Out.refl _ w0).thenBelow B0.out).thenBelow B7.out,S1,fun k hk=>.inl hk,adr,x,aj.out.below B7.out⟩
theorem dmkdir_any(S:Nat->Prop)(w:World)(P m:Nat)(D:Dk)(p:List UInt8)(h:Disk S w P D)(he:NF.Env w)(hH:Hi S P)(hm:Num m D)(hm2:m<=100000)(hp:p.length<=maxLen) :
  Calls Tryz.prog 72 #[.pointer (some ⟨P,0,none⟩),txt p] w fun r w'=>r=.returned (.int .i64 (mkdirD D p).2)/\Does S P w.heap.size w (mkdirD D p).1 w':=by
 obtain⟨X,hX,ax⟩:=txt_of p;obtain⟨E,hE⟩:∃ E,(stepD D ⟨cMkdir,p,[]⟩).1=E:=⟨_,rfl⟩;obtain⟨er,ah⟩:∃ e,(stepD D ⟨cMkdir,p,[]⟩).2=e:=⟨_,rfl⟩;have aa:=step_num hm ⟨cMkdir,p,[]⟩
 have CS:Hid (Calls Tryz.prog 56 #[.pointer (some ⟨P,0,none⟩),.string ⟨#[77,107,100,105,114]⟩,.string X,.string ⟨#[]⟩] w fun r w'=>r=.returned (.int .i64 er)/\Does S P w.heap.size w E w'):=hid (by
  have:=step_any S w P m D ⟨cMkdir,p,[]⟩ h he hH hm hm2;rw[hE,ah]at this;simp only at this;rw[hX]at this
  exact this)
 rw[hE]at aa
 have a9:Hid (er≠0->mkdirD D p=(E,er)):=hid (fun h0=>by
  unfold mkdirD
  rw[after_no (by rw[ah];exact h0),← hE,← ah])
 have aA:Hid (er=0->mkdirD D p=refuse (layE E ⟨p,2,[],0⟩) E (laidD E ⟨p,2,[],0⟩)):=hid (fun h0=>by
  unfold mkdirD
  rw[after_yes (by rw[ah];exact h0),← hE])
 have HE:=hid he;have HH:=hid hH;have HX:=hid hX;have aC:=hid hp
 have al:E.later.length<=1099511627776/\E.inos.length<=4611686018427387904:=by
  have a1:=aa.later;have a2:=aa.inos;have ba:m*2097152<=100000*2097152:=Nat.mul_le_mul_right _ hm2;have aO:m*2147483648<=100000*2147483648:=Nat.mul_le_mul_right _ hm2;constructor<;>omega
 have bk:=hid al;obtain⟨Z,hZ⟩:∃ Z,mkdirD D p=Z:=⟨_,rfl⟩;rw[hZ]at a9 aA;rw[hZ,hX];clear h he hH hm hE ah aa al hZ hX ax hp;go_enter Tryz.func72,Tryz.ntmps72;repeat (first|go_skip|go_guarded|go_step|go_upon)
 refine CS.out.mono ?_;rintro r w1 ⟨rfl,am,S1,aq,adr,x,ac⟩;simp only[];have av:=hid am;have aw:=hid aq;have aj:=hid ac;by_cases h0:er=0
 ·have HZ:Hid (Z=refuse (layE E ⟨p,2,[],0⟩) E (laidD E ⟨p,2,[],0⟩)):=hid (aA.out h0);have CL:=hid (dlay_any S1 w1 P E adr x ⟨p,2,[],0⟩ ac (env_does HE.out am HH.out) bk.out aC.out)
  have du:Hid (Calls Tryz.prog 128 #[.pointer (some ⟨P,0,none⟩),.agg #[.string X,.int .i64 2,.string ⟨#[]⟩,.int .i64 0]] w1 fun r w'=>r=.returned (.int .i64 (layE E ⟨p,2,[],0⟩))/\Does S1 P w1.heap.size w1 (if layE E ⟨p,2,[],0⟩=0 then laidD E ⟨p,2,[],0⟩else E) w'):=hid (by
   have:=CL.out;unfold ndVal at this;simp only at this;rw[HX.out]at this
   exact this)
  subst h0;clear am aq ac CL;repeat (first|go_skip|go_guarded|go_step|go_upon)
  refine du.out.mono ?_;rintro r w2 ⟨rfl,bM,S2,b7,bP⟩;simp only[];repeat (first|go_skip|go_guarded|go_step|go_upon)
  go_ret;rw[HZ.out];have aF:=does_then av.out aw.out bM b7 bP;unfold refuse;by_cases hl:layE E ⟨p,2,[],0⟩=0
  ·rw[if_pos hl]at aF ⊢;rw[hl];exact⟨rfl,aF⟩
  ·rw[if_neg hl]at aF ⊢;exact⟨rfl,aF⟩
 ·have HZ:=hid (a9.out h0);have bj:(er != 0)=true:=by simpa using h0
  have aB:(er==0)=false:=by simpa using h0
  clear am aq ac h0;repeat (first|go_skip|go_guarded|go_step|go_upon)
  go_ret;rw[HZ.out];exact⟨rfl,av.out,S1,aw.out,adr,x,aj.out⟩
theorem dlink_any(S:Nat->Prop)(w:World)(P m:Nat)(D:Dk)(p q:List UInt8)(h:Disk S w P D)(he:NF.Env w)(hH:Hi S P)(hm:Num m D)(hm2:m<=100000)(hp:p.length<=maxLen)(hq:q.length<=maxLen) :
  Calls Tryz.prog 73 #[.pointer (some ⟨P,0,none⟩),txt p,txt q] w fun r w'=>r=.returned (.int .i64 (linkD D p q).2)/\Does S P w.heap.size w (linkD D p q).1 w':=by
 obtain⟨X,hX,ax⟩:=txt_of p;obtain⟨V,hV,cG⟩:=txt_of q;obtain⟨E,hE⟩:∃ E,(stepD D ⟨cLink,p,q⟩).1=E:=⟨_,rfl⟩;obtain⟨er,ah⟩:∃ e,(stepD D ⟨cLink,p,q⟩).2=e:=⟨_,rfl⟩;have aa:=step_num hm ⟨cLink,p,q⟩
 have CS:Hid (Calls Tryz.prog 56 #[.pointer (some ⟨P,0,none⟩),.string ⟨#[76,105,110,107]⟩,.string X,.string V] w fun r w'=>r=.returned (.int .i64 er)/\Does S P w.heap.size w E w'):=hid (by
  have:=step_any S w P m D ⟨cLink,p,q⟩ h he hH hm hm2;rw[hE,ah]at this;simp only at this;rw[hX]at this;rw[hV]at this
  exact this)
 rw[hE]at aa
 have a9:Hid (er≠0->linkD D p q=(E,er)):=hid (fun h0=>by
  unfold linkD
  rw[after_no (by rw[ah];exact h0),← hE,← ah])
 have aA:Hid (er=0->linkD D p q=refuse (layE E ⟨p,3,q,0⟩) E (laidD E ⟨p,3,q,0⟩)):=hid (fun h0=>by
  unfold linkD
  rw[after_yes (by rw[ah];exact h0),← hE])
 have HE:=hid he;have HH:=hid hH;have HX:=hid hX;have aC:=hid hp;have HV:=hid hV
 have al:E.later.length<=1099511627776/\E.inos.length<=4611686018427387904:=by
  have a1:=aa.later;have a2:=aa.inos;have ba:m*2097152<=100000*2097152:=Nat.mul_le_mul_right _ hm2;have aO:m*2147483648<=100000*2147483648:=Nat.mul_le_mul_right _ hm2;constructor<;>omega
 have bk:=hid al;obtain⟨Z,hZ⟩:∃ Z,linkD D p q=Z:=⟨_,rfl⟩;rw[hZ]at a9 aA;rw[hZ,hX,hV];clear h he hH hm hE ah aa al hZ hX ax hp hV cG hq;go_enter Tryz.func73,Tryz.ntmps73;repeat (first|go_skip|go_guarded|go_step|go_upon)
 refine CS.out.mono ?_;rintro r w1 ⟨rfl,am,S1,aq,adr,x,ac⟩;simp only[];have av:=hid am;have aw:=hid aq;have aj:=hid ac;by_cases h0:er=0
 ·have HZ:Hid (Z=refuse (layE E ⟨p,3,q,0⟩) E (laidD E ⟨p,3,q,0⟩)):=hid (aA.out h0);have CL:=hid (dlay_any S1 w1 P E adr x ⟨p,3,q,0⟩ ac (env_does HE.out am HH.out) bk.out aC.out)
  have du:Hid (Calls Tryz.prog 128 #[.pointer (some ⟨P,0,none⟩),.agg #[.string X,.int .i64 3,.string V,.int .i64 0]] w1 fun r w'=>r=.returned (.int .i64 (layE E ⟨p,3,q,0⟩))/\Does S1 P w1.heap.size w1 (if layE E ⟨p,3,q,0⟩=0 then laidD E ⟨p,3,q,0⟩else E) w'):=hid (by
   have:=CL.out;unfold ndVal at this;simp only at this;rw[HX.out,HV.out]at this
   exact this)
  subst h0;clear am aq ac CL;repeat (first|go_skip|go_guarded|go_step|go_upon)
  refine du.out.mono ?_;rintro r w2 ⟨rfl,bM,S2,b7,bP⟩;simp only[];repeat (first|go_skip|go_guarded|go_step|go_upon)
  go_ret;rw[HZ.out];have aF:=does_then av.out aw.out bM b7 bP;unfold refuse;by_cases hl:layE E ⟨p,3,q,0⟩=0
  ·rw[if_pos hl]at aF ⊢;rw[hl];exact⟨rfl,aF⟩
  ·rw[if_neg hl]at aF ⊢;exact⟨rfl,aF⟩
 ·have HZ:=hid (a9.out h0);have bj:(er != 0)=true:=by simpa using h0
  have aB:(er==0)=false:=by simpa using h0
  clear am aq ac h0;repeat (first|go_skip|go_guarded|go_step|go_upon)
  go_ret;rw[HZ.out];exact⟨rfl,av.out,S1,aw.out,adr,x,aj.out⟩
end DG
end
section
open Go.RowKit Go.Lib Go.BigFrame
namespace DG
open OM TP TM DP DM TG TR FP
theorem get_done{S S1:Nat->Prop}{P:Nat}{w w0 w1 w8 w9:World}{E:Dk}{adr:Int->Nat}{x:Parts}(hP:P<w.heap.size)(hS:∀ k,S k->k<w.heap.size)(dB:Below w.heap.size w w0)(cJ:w.heap.size+2<=w0.heap.size)
  (am:Out (fun k=>S k\/k=P) w0 w1) (aq:∀ k,S1 k->S k\/w0.heap.size<=k) (ac:DiskX S1 w1 P E adr [] x) (bx:Below w1.heap.size w1 w8) (bh:w8.heap.size<=w9.heap.size) (ho9:Out (fun k=>k=w.heap.size\/k=w.heap.size+1) w8 w9):Does S P w.heap.size w E w9:=by
 have bJ:=am.size;have bI:=bx.size;refine⟨?_,S1,fun k hk=>(aq k hk).imp id (fun h=>by omega),adr,x,(ac.below bx).keep bh (ho9.block P (by omega) (fun h=>by omega)) (fun k hk=>ho9.block k (Nat.lt_of_lt_of_le (ac.lt k hk) bI) (fun h=>?_))⟩
 ·have u1:=(((Out.refl (fun k=>S k\/k=P) w).thenBelow dB).then am (fun j _ h=>h)).thenBelow bx;exact u1.then ho9 (fun j hj h=>by omega)
 ·rcases aq k hk with h1|h1
  ·have:=hS k h1;omega
  ·omega
theorem out7(w:World)(n:Nat)(a b c d e f g:Value):Out (fun k=>k=n\/k=n+1) w (((((((w.setCell ⟨n,0,none⟩ a).setCell ⟨n,1,none⟩ b).setCell ⟨n,2,none⟩ c).setCell ⟨n,3,none⟩ d).setCell ⟨n+1,0,none⟩ e).setCell ⟨n+1,1,none⟩ f).setCell ⟨n+1,2,none⟩ g) :=
 (((((((Out.refl _ w).setCell (p:=⟨n,0,none⟩) (fun _=>.inl rfl) _).setCell (p:=⟨n,1,none⟩) (fun _=>.inl rfl) _).setCell (p:=⟨n,2,none⟩) (fun _=>.inl rfl) _).setCell (p:=⟨n,3,none⟩) (fun _=>.inl rfl) _).setCell (p:=⟨n+1,0,none⟩) (fun _=>.inr rfl) _).setCell (p:=⟨n+1,1,none⟩) (fun _=>.inr rfl) _).setCell (p:=⟨n+1,2,none⟩) (fun _=>.inr rfl) _
theorem at_got{S:Nat->Prop}{w:World}{P:Nat}{D:Dk}{adr:Int->Nat}{pend:List Nd}{x:Parts}(h:DiskX S w P D adr pend x)(p:List UInt8)(hp:p.length<=maxLen)(hk:kindD D p≠0) :
  Calls Tryz.prog 65 #[x.vn,txt p] w fun r w'=>(∃(g:Nat) (k:Int) (i:Ino),r=.returned (.pointer (some ⟨g,0,none⟩))/\InoAt w' g k i/\gotN D p=⟨p,i.kind,i.data,i.mode⟩/\gotS D p=⟨k,i.data.length,i.time⟩)/\Below w.heap.size w w':=by
 refine(at_of h p hp).mono ?_;rintro r w' ⟨h1,hb⟩;refine⟨?_,hb⟩;by_cases h0:p=[]
 ·rw[if_pos h0]at h1;subst h0;exact⟨_,0,_,h1.1,h1.2,rfl,rfl⟩
 ·rw[if_neg h0]at h1;obtain⟨e,he,hm,bn,hi,_⟩:=kindD_ino h0 h.fit hk;rw[hi,ptr_pos adr bn]at h1;have hl:e∈pend++liveL D:=mem_append_right _ (by unfold liveL;exact mem_append_left _ hm);refine⟨_,e.kind,inoOf D.inos e.kind,h1,inoAt_below (h.rest.inos e hl bn) hb,?_,?_⟩
  ·unfold gotN;rw[if_neg h0,he];rfl
  ·unfold gotS;rw[if_neg h0,he]
theorem dget_any(S:Nat->Prop)(w:World)(P m:Nat)(D:Dk)(p:List UInt8)(h:Disk S w P D)(he:NF.Env w)(hH:Hi S P)(hm:Num m D)(hm2:m<=100000)(hp:p.length<=maxLen) :
  Calls Tryz.prog 74 #[.pointer (some ⟨P,0,none⟩),txt p] w fun r w'=>r=.returned (.tuple #[ndVal (getD D p).2.1,stampVal (getD D p).2.2.1,.int .i64 (getD D p).2.2.2])/\Does S P w.heap.size w (getD D p).1 w':=by
 obtain⟨X,hX,ax⟩:=txt_of p;obtain⟨E,hE⟩:∃ E,(stepD D ⟨cGet,p,[]⟩).1=E:=⟨_,rfl⟩;obtain⟨er,ah⟩:∃ e,(stepD D ⟨cGet,p,[]⟩).2=e:=⟨_,rfl⟩;obtain⟨d3,x0,h0⟩:=h;have B0:Hid (Below w.heap.size w ((w.alloc (.cells #[.string ⟨#[]⟩,.int .i64 0,.string ⟨#[]⟩,.int .i64 0] 45)).alloc (.cells #[.int .i64 0,.int .i64 0,.int .i64 0] 47))):=hid (((Below.refl _ _).alloc (Nat.le_refl _) _).alloc (by simp) _);have RN:Hid (((w.alloc (.cells #[.string ⟨#[]⟩,.int .i64 0,.string ⟨#[]⟩,.int .i64 0] 45)).alloc (.cells #[.int .i64 0,.int .i64 0,.int .i64 0] 47)).heap[w.heap.size]?=some (.cells #[.string ⟨#[]⟩,.int .i64 0,.string ⟨#[]⟩,.int .i64 0] 45 (0,0))):=hid ((Below.heap_alloc _ _ _ (by simp)).trans (heap_alloc_new w _))
 have RS:Hid (((w.alloc (.cells #[.string ⟨#[]⟩,.int .i64 0,.string ⟨#[]⟩,.int .i64 0] 45)).alloc (.cells #[.int .i64 0,.int .i64 0,.int .i64 0] 47)).heap[w.heap.size+1]?=some (.cells #[.int .i64 0,.int .i64 0,.int .i64 0] 47 (0,0))):=hid (by
  have:=heap_alloc_new (w.alloc (.cells #[.string ⟨#[]⟩,.int .i64 0,.string ⟨#[]⟩,.int .i64 0] 45)) (.cells #[.int .i64 0,.int .i64 0,.int .i64 0] 47)
  simpa using this)
 have dh:Hid (w.heap.size+2<=((w.alloc (.cells #[.string ⟨#[]⟩,.int .i64 0,.string ⟨#[]⟩,.int .i64 0] 45)).alloc (.cells #[.int .i64 0,.int .i64 0,.int .i64 0] 47)).heap.size):=hid (by simp)
 have CS:Hid (Calls Tryz.prog 56 #[.pointer (some ⟨P,0,none⟩),.string ⟨#[71,101,116]⟩,.string X,.string ⟨#[]⟩] ((w.alloc (.cells #[.string ⟨#[]⟩,.int .i64 0,.string ⟨#[]⟩,.int .i64 0] 45)).alloc (.cells #[.int .i64 0,.int .i64 0,.int .i64 0] 47)) fun r w'=>r=.returned (.int .i64 er)/\Does S P ((w.alloc (.cells #[.string ⟨#[]⟩,.int .i64 0,.string ⟨#[]⟩,.int .i64 0] 45)).alloc (.cells #[.int .i64 0,.int .i64 0,.int .i64 0] 47)).heap.size ((w.alloc (.cells #[.string ⟨#[]⟩,.int .i64 0,.string ⟨#[]⟩,.int .i64 0] 45)).alloc (.cells #[.int .i64 0,.int .i64 0,.int .i64 0] 47)) E w'):=hid (by
  have:=step_any S _ P m D ⟨cGet,p,[]⟩ ⟨d3,x0,h0.below B0.out⟩ (he.below B0.out) hH hm hm2;rw[hE,ah]at this;simp only at this;rw[hX]at this
  exact this)
 have cW:Hid (P<w.heap.size):=hid (Array.getElem?_eq_some_iff.1 h0.row).1;have dp:Hid (∀ k,S k->k<w.heap.size):=hid h0.lt;have E0:=hid (he.below B0.out)
 have a9:Hid (er≠0->getD D p=(E,(nodeZ,stampZ,er))):=hid (fun hz=>by
  unfold getD;rw[after_no (by rw[ah];exact hz)];simp only
  rw[if_neg (by rw[ah];exact hz),hE,ah])
 have aA:Hid (er=0->missE E p≠0->getD D p=(E,(nodeZ,stampZ,missE E p))):=hid (fun hz bG=>by
  unfold getD;rw[after_yes (by rw[ah];exact hz),hE];unfold refuse;rw[if_neg bG];simp only
  rw[if_neg bG])
 have dX:Hid (er=0->missE E p=0->getD D p=(E,(gotN E p,gotS E p,0))):=hid (fun hz bG=>by
  unfold getD;rw[after_yes (by rw[ah];exact hz),hE];unfold refuse;rw[if_pos bG]
  simp)
 have HH:=hid hH;have HX:=hid hX;have HP:=hid hp;obtain⟨Z,hZ⟩:∃ Z,getD D p=Z:=⟨_,rfl⟩;rw[hZ]at a9 aA dX;rw[hZ,hX];obtain⟨w0,dc⟩:∃ W,((w.alloc (.cells #[.string ⟨#[]⟩,.int .i64 0,.string ⟨#[]⟩,.int .i64 0] 45)).alloc (.cells #[.int .i64 0,.int .i64 0,.int .i64 0] 47))=W:=⟨_,rfl⟩;rw[dc]at B0 RN RS dh CS E0;clear h0 he hH hm hE ah hX ax hp hZ;go_enter Tryz.func74,Tryz.ntmps74;repeat (first|go_skip|go_guarded|go_step|go_upon)
 try rw[dc]
 clear dc;refine CS.out.mono ?_;rintro r w1 ⟨rfl,am,S1,aq,adr,x,ac⟩;simp only[];have av:=hid am;have aw:=hid aq;have aj:=hid ac;have E1:=hid (env_does E0.out am HH.out);have cJ:=dh.out
 have c9:=hid ((am.block w.heap.size (by omega) (fun h=>by
  rcases h with h|h
  ·have:=dp.out _ h;omega
  ·have:=cW.out;omega)).trans RN.out)
 have cw:=hid ((am.block (w.heap.size+1) (by omega) (fun h=>by
  rcases h with h|h
  ·have:=dp.out _ h;omega
  ·have:=cW.out;omega)).trans RS.out)
 have bX:Hid (∀ w8 w9,Below w1.heap.size w1 w8->w8.heap.size<=w9.heap.size->Out (fun k=>k=w.heap.size\/k=w.heap.size+1) w8 w9->Does S P w.heap.size w E w9):=hid (fun w8 w9 h1 h2 h3=>get_done cW.out dp.out B0.out dh.out av.out aw.out aj.out h1 h2 h3);by_cases h0:er=0
 ·have CM:=hid (missing_any S1 w1 P E adr [] p ⟨x,ac⟩ E1.out HP.out);obtain⟨e0,ab⟩:∃ e,missE E p=e:=⟨_,rfl⟩;have aP:=hid ab;rw[ab,HX.out]at CM;subst h0;clear am aq ab;repeat (first|go_skip|go_guarded|go_step|go_upon)
  refine CM.out.mono ?_;rintro r w2 ⟨rfl,al⟩;simp only[];have B2:=hid al;by_cases ab:e0=0
  ·have HZ:=hid (dX.out rfl (aP.out.trans ab));subst ab
   have dZ:kindD E p≠0:=by
    have h1:=aP.out;unfold missE at h1;obtain⟨_,h1⟩:=first_cons h1;obtain⟨z2,_⟩:=first_cons h1;have y2:=when_zero z2 (by omega);simpa using y2
   obtain⟨ao,cap,ag,_⟩:=layE_own ac.rest.names;obtain⟨n,hn⟩:∃ n,E.names.length=n:=⟨_,rfl⟩;rw[hn]at ag;have cO:=(ac.below al).row;unfold diskC at cO;rw[ag]at cO;obtain⟨k0,-,-,-,-,-,-,-,-,-⟩:=row9 cO;have CA:=hid (at_got (ac.below al) p HP.out dZ);rw[ag,HX.out]at CA;clear ag hn cO al ac dZ;repeat (first|go_skip|go_guarded|go_step|go_upon)
   refine CA.out.mono ?_;rintro r w3 ⟨⟨g,k,i,rfl,hi,eh,dH⟩,aW⟩;simp only[];have B3:=hid (Below.trans B2.out (aW.mono B2.out.size));have eW:=hid eh;have eK:=hid dH;obtain⟨Y9,bL,_⟩:=txt_of i.data
   have CN:Hid (Calls Tryz.prog 127 #[.pointer (some ⟨g,0,none⟩),.string X] w3 fun r w'=>r=.returned (.agg #[.string X,.int .i64 i.kind,.string Y9,.int .i64 i.mode])/\Below w3.heap.size w3 w'):=hid (by
    have:=node_any g k i p w3 hi;unfold ndVal at this;simp only at this;rw[HX.out,bL]at this
    exact this)
   have CT:Hid (∀ W,Below w3.heap.size w3 W->Calls Tryz.prog 130 #[.pointer (some ⟨g,0,none⟩)] W fun r w'=>r=.returned (.agg #[.int .i64 k,.int .i64 i.data.length,.int .i64 i.time])/\Below W.heap.size W w'):=hid (fun W hW=>stamp_any g k i W (inoAt_below hi hW));have fo:=hid bL;obtain⟨kk,cI⟩:∃ z,i.kind=z:=⟨_,rfl⟩;obtain⟨km,cY⟩:∃ z,i.mode=z:=⟨_,rfl⟩;obtain⟨kl,cR⟩:∃ z,i.data.length=z:=⟨_,rfl⟩;obtain⟨kt,ds⟩:∃ z,i.time=z:=⟨_,rfl⟩;rw[cI,cY]at CN;rw[cR,ds]at CT;have eZ:=hid cI;have fy:=hid cY;have eX:=hid cR;have fq:=hid ds;clear hi eh dH aW bL cI cY cR ds k0;repeat (first|go_skip|go_guarded|go_step|go_upon)
   refine CN.out.mono ?_;rintro r w4 ⟨rfl,aL⟩;simp only[];repeat (first|go_skip|go_guarded|go_step|go_upon)
   refine(CT.out w4 aL).mono ?_;rintro r w5 ⟨rfl,bZ⟩;simp only[];have B5:=hid (Below.trans B3.out ((Below.trans aL (bZ.mono aL.size)).mono B3.out.size));have rn:=(B5.out.block _ (Array.getElem?_eq_some_iff.1 c9.out).1).trans c9.out;have rs:=(B5.out.block _ (Array.getElem?_eq_some_iff.1 cw.out).1).trans cw.out;obtain⟨t0,t1,t2,t3,tf⟩:=row4 rn;obtain⟨s0,s1,s2,sf⟩:=row3 rs;clear rn rs aL bZ;repeat (first|go_skip|go_guarded|go_step|go_upon)
   refine bodyPost_ret (v:=.tuple #[.agg #[.string X,.int .i64 kk,.string Y9,.int .i64 km],.agg #[.int .i64 k,.int .i64 kl,.int .i64 kt],.int .i64 0]) ?_ rfl ⟨?_,?_⟩
   ·rw[results_cell2 rfl];go_simp
   ·rw[HZ.out];simp only;rw[eW.out,eK.out];unfold ndVal stampVal;simp only;rw[HX.out,fo.out,eZ.out,fy.out,eX.out,fq.out]
   ·rw[HZ.out];exact bX.out _ _ B5.out (by simp[set_size]) (out7 _ _ _ _ _ _ _ _ _)
  ·have bj:(e0 != 0)=true:=by simpa using ab
   have HZ:=hid (aA.out rfl (by rw[aP.out];exact ab));have rn:=(al.block _ (Array.getElem?_eq_some_iff.1 c9.out).1).trans c9.out;have rs:=(al.block _ (Array.getElem?_eq_some_iff.1 cw.out).1).trans cw.out;obtain⟨t0,t1,t2,t3,tf⟩:=row4 rn;obtain⟨s0,s1,s2,sf⟩:=row3 rs;clear ab al rn rs ac;repeat (first|go_skip|go_guarded|go_step|go_upon)
   refine bodyPost_ret (v:=.tuple #[.agg #[.string ⟨#[]⟩,.int .i64 0,.string ⟨#[]⟩,.int .i64 0],.agg #[.int .i64 0,.int .i64 0,.int .i64 0],.int .i64 e0]) ?_ rfl ⟨?_,?_⟩
   ·rw[results_cell2 rfl];go_simp
   ·rw[HZ.out,aP.out];rfl
   ·rw[HZ.out];exact bX.out _ _ B2.out (by simp[set_size]) (out7 _ _ _ _ _ _ _ _ _)
 ·have HZ:=hid (a9.out h0);have bj:(er != 0)=true:=by simpa using h0
  have aB:(er==0)=false:=by simpa using h0
  obtain⟨t0,t1,t2,t3,tf⟩:=row4 c9.out;obtain⟨s0,s1,s2,sf⟩:=row3 cw.out;clear am aq ac h0;repeat (first|go_skip|go_guarded|go_step|go_upon)
  refine bodyPost_ret (v:=.tuple #[.agg #[.string ⟨#[]⟩,.int .i64 0,.string ⟨#[]⟩,.int .i64 0],.agg #[.int .i64 0,.int .i64 0,.int .i64 0],.int .i64 er]) ?_ rfl ⟨?_,?_⟩
  ·rw[results_cell2 rfl];go_simp
  ·rw[HZ.out];rfl
  ·rw[HZ.out];exact bX.out _ _ (Below.refl _ _) (by simp[set_size]) (out7 _ _ _ _ _ _ _ _ _)
end DG
end
section
open Go.RowKit Go.Lib Go.BigFrame
namespace DG
open OM TP TM DP DM TG TR FP
theorem chg_remove{S1:Nat->Prop}{W:World}{P:Nat}{E:Dk}{adr:Int->Nat}{x:Parts}{p:List UInt8}{a:Value}{g:Nat}(h:DiskX S1 W P E adr [] x)(hg:g=W.heap.size)(ha:txt p=a)(hp:NP.pathL p=true) :
  ChgIn S1 (W.alloc (.cells #[a,.pointer none] 125)) E adr [] (some ⟨g,0,none⟩) [en p 0]:=by
 subst hg ha;have hn:=heap_alloc_new W (.cells #[txt p,.pointer none] 125);obtain⟨c0,c1,_⟩:=row2 hn;refine⟨fun _=>⟨W.heap.size,0,rfl,by simp,fun j e hj=>?_⟩,⟨fun e he=>?_,fun e he=>?_⟩,fun a ha=>?_,fun j=>?_,by simp,fun e he h0=>?_⟩
 ·match j with
  | 0 =>
   simp at hj;subst hj;exact⟨c0,c1⟩
  | j+1=>simp at hj
 ·rw[List.mem_singleton.1 he];exact hp
 ·rw[List.mem_singleton.1 he];exact⟨0,rfl,Nat.zero_le _⟩
 ·injection ha with ha;subst ha;refine⟨⟨_,_,hn⟩,fun hS=>?_⟩;have:=h.lt _ hS;simp at this
 ·have h1:=with_out_len E.names ([en p 0].take j) (fun e he=>by rw[List.mem_singleton.1 (List.mem_of_mem_take he)];rfl);have:=h.fit.names.len;omega
 ·rw[List.mem_singleton.1 he]at h0;exact absurd rfl h0
theorem dremove_any(S:Nat->Prop)(w:World)(P m:Nat)(D:Dk)(p:List UInt8)(h:Disk S w P D)(he:NF.Env w)(hH:Hi S P)(hm:Num m D)(hm2:m<=100000)(hp:p.length<=maxLen) :
  Calls Tryz.prog 47 #[.pointer (some ⟨P,0,none⟩),txt p] w fun r w'=>r=.returned (.int .i64 (removeD D p).2)/\Does S P w.heap.size w (removeD D p).1 w':=by
 obtain⟨X,hX,ax⟩:=txt_of p;obtain⟨E,hE⟩:∃ E,(stepD D ⟨cRemove,p,[]⟩).1=E:=⟨_,rfl⟩;obtain⟨er,ah⟩:∃ e,(stepD D ⟨cRemove,p,[]⟩).2=e:=⟨_,rfl⟩;have aa:=step_num hm ⟨cRemove,p,[]⟩
 have CS:Hid (Calls Tryz.prog 56 #[.pointer (some ⟨P,0,none⟩),.string ⟨#[82,101,109,111,118,101]⟩,.string X,.string ⟨#[]⟩] w fun r w'=>r=.returned (.int .i64 er)/\Does S P w.heap.size w E w'):=hid (by
  have:=step_any S w P m D ⟨cRemove,p,[]⟩ h he hH hm hm2;rw[hE,ah]at this;simp only at this;rw[hX]at this
  exact this)
 rw[hE]at aa
 have a9:Hid (er≠0->removeD D p=(E,er)):=hid (fun h0=>by
  unfold removeD
  rw[after_no (by rw[ah];exact h0),← hE,← ah])
 have aA:Hid (er=0->removeD D p=refuse (removeE E p) E (changeD E [en p 0])):=hid (fun h0=>by
  unfold removeD
  rw[after_yes (by rw[ah];exact h0),← hE])
 have HE:=hid he;have HH:=hid hH;have HX:=hid hX;have bv:=hid ax;have aC:=hid hp
 have al:E.later.length<=1099511627776/\E.inos.length<=4611686018427387904:=by
  have a1:=aa.later;have a2:=aa.inos;have ba:m*2097152<=100000*2097152:=Nat.mul_le_mul_right _ hm2;have aO:m*2147483648<=100000*2147483648:=Nat.mul_le_mul_right _ hm2;constructor<;>omega
 have bk:=hid al;obtain⟨Z,hZ⟩:∃ Z,removeD D p=Z:=⟨_,rfl⟩;rw[hZ]at a9 aA;rw[hZ,hX];clear h he hH hm hE ah aa al hZ hX ax hp;go_enter Tryz.func47,Tryz.ntmps47;repeat (first|go_skip|go_guarded|go_step|go_upon)
 refine CS.out.mono ?_;rintro r w1 ⟨rfl,am,S1,aq,adr,x,ac⟩;simp only[];have av:=hid am;have aw:=hid aq;have aj:=hid ac;by_cases h0:er=0
 ·have HZ:=hid (aA.out h0);obtain⟨ao,cap,ag,_⟩:=layE_own ac.rest.names;obtain⟨n,hn⟩:∃ n,E.names.length=n:=⟨_,rfl⟩;rw[hn]at ag;have hr:=ac.row;unfold diskC at hr;rw[ag]at hr;obtain⟨c0,-,-,-,-,-,-,-,-,-⟩:=row9 hr;have bf:=(Array.getElem?_eq_some_iff.1 hr).1;have E1:=hid (env_does HE.out am HH.out);have HV:=hid ag;have g0:=cell_regrown c0;have D6:=hid (fun b e=>when_g w1 b e);obtain⟨b1,ay⟩:∃ b,NP.pathL p=b:=⟨_,rfl⟩
  have D1:=hid (reg_g (w:=w1) (f:=60) (args:=#[.string X]) (v:=.bool b1) (fun W hW=>by
   have:=path_txt X p W (E1.out.below hW) bv.out aC.out;rw[ay]at this
   exact this))
  obtain⟨k,hk⟩:∃ k,kindD E p=k:=⟨_,rfl⟩
  have D2:=hid (reg_g (w:=w1) (f:=57) (args:=#[.slice ao n cap,.string X]) (v:=.int .i64 k) (fun W hW=>by
   have:=kind_of (aj.out.below hW) p aC.out;rw[HV.out,HX.out,hk]at this
   exact this))
  obtain⟨j,hj⟩:∃ j,(inE E.names p).length=j:=⟨_,rfl⟩
  have CW:Hid (∀ W,Below w1.heap.size w1 W->Calls Tryz.prog 108 #[.slice ao n cap,.string X] W fun r w'=>∃ ai ci,r=.returned (.slice ai j ci)/\Below W.heap.size W w'):=hid (fun W hW=>by
   obtain⟨ec,dl,dd,cm,cd,_⟩:=layE_own (aj.out.below hW).rest.names;have:=dwithin_any adr ec dl E.names p W (E1.out.below hW) cm aj.out.fit.names cd aC.out;rw[<- dd,HV.out,HX.out]at this;refine this.mono ?_;rintro r w' ⟨a,c,rfl,_,hb⟩
   exact⟨a,c,by rw[hj],hb⟩)
  obtain⟨q0,bw⟩:∃ b,(k==0)=b:=⟨_,rfl⟩;obtain⟨e0,ab⟩:∃ e,removeE E p=e:=⟨_,rfl⟩;have HK:=hid hk;obtain⟨qj,d9⟩:∃ b,decide ((1:Int)<(j:Int))=b:=⟨_,rfl⟩
  have bc:Hid (firstE [whenE (!b1) 11,whenE q0 74,whenE qj 72]=e0):=hid (by
   rw[<- ab];unfold removeE;rw[ay,HK.out,← bw,hj,← d9];have z2:decide (k=0)=(k==0):=by by_cases h:k=0<;>simp[h]
   have z3:decide (1<j)=decide ((1:Int)<(j:Int)):=by
    by_cases h:1<j
    ·rw[decide_eq_true h,decide_eq_true (by omega)]
    ·rw[decide_eq_false h,decide_eq_false (by omega)]
   rw[z2,z3])
  have ap:Hid (e0=0->NP.pathL p=true):=hid (fun hz=>by
   have h1:=bc.out;rw[hz]at h1;obtain⟨z1,h1⟩:=first_cons h1;have y1:=when_zero z1 (by omega);rw[ay]
   simpa using y1)
  have aP:=hid ab;subst h0;clear am aq ac ag hn hr hk ay ab c0 hj;cases qj
  all_goals
   first
    | (have eM:¬(1:Int)<(j:Int):=of_decide_eq_false d9)
    | (have eM:(1:Int)<(j:Int):=of_decide_eq_true d9)
   repeat (first|go_skip|go_guarded|go_step|go_upon)
   with_reducible refine QT.region_tail 17 (by kernel_rfl) (by kernel_rfl) ?_
   simp only[take_succ_cons,take_zero,drop_succ_cons,drop_zero];repeat (go_big_quiet_step (first|(go_at_call 60;with_reducible exact D1.out _ _)|(go_at_call 57;with_reducible exact D2.out _ _)|(go_at_call 59;with_reducible exact D6.out _ _ _ _)))
   refine wpQuiet_nil ?_;intro _ hw';obtain⟨⟨dq,au⟩,ak⟩:=hw';subst ak;have B5:=hid (below_regrown w1 dq au);clear g0;generalize Go.Sort.grow (redrawn w1 dq) au=w5 at B5 ⊢;repeat (first|go_skip|go_guarded|go_step|go_upon)
   refine(CW.out w5 B5.out).mono ?_;rintro r w6 ⟨ai,ci,rfl,eo⟩;simp only[];have B6:=hid (Below.trans B5.out (eo.mono B5.out.size));clear eo;repeat (first|(go_at_call 59;refine(when_any _ _ _).mono ?_;rintro r f7 ⟨rfl,rfl⟩;simp only[])|go_skip|go_guarded|go_step|go_upon)
   refine(first3 _ _ _ _ _ _ (heap_alloc_new w6 _)).mono ?_;rintro r w7 ⟨bd,aS⟩;have aG:=bd.trans (congrArg (fun z=>Ending.returned (.int .i64 z)) bc.out);subst aG;clear bd;simp only[];have B7:Hid (Below w1.heap.size w1 w7):=hid (aS ▸ B6.out.alloc B6.out.size _);clear aS;by_cases ab:e0=0
   ·subst ab;have az:=hid (ap.out rfl);have aK:Hid (Z=(changeD E [en p 0],0)):=hid (by rw[HZ.out,aP.out];rfl);have D8:=hid (aj.out.below B7.out);have bK:Hid (ChgIn S1 (w7.alloc (.cells #[.string X,.pointer none] 125)) E adr [] (some ⟨w7.heap.size,0,none⟩) [en p 0]):=hid (chg_remove D8.out rfl HX.out az.out);repeat (first|go_skip|go_guarded|go_step|go_upon)
    refine(change_any S1 _ P E adr [] _ 1 [en p 0] ⟨x,D8.out.below ((Below.refl _ _).alloc (Nat.le_refl _) _)⟩ bK.out bk.out.1).mono ?_;rintro r w9 ⟨rfl,⟨S9,bh,bs⟩,bt⟩;simp only[];have b8:=hid bt;have br:=hid bh;have cU:=hid bs;clear bt bh bs;repeat (first|go_skip|go_guarded|go_step|go_upon)
    go_ret;rw[aK.out];have bI:=B7.out.size;refine⟨rfl,does_then av.out aw.out ((((Out.refl _ w1).thenBelow B7.out).alloc _).then b8.out (fun j hj hT=>hT.imp (·.1) id)) (fun k hk=>?_) ⟨adr,cU.out⟩⟩;have bS:(w7.alloc (.cells #[.string X,.pointer none] 125)).heap.size=w7.heap.size+1:=by simp
    rcases br.out k hk with h4|⟨a,h4,h5⟩|h4
    ·exact .inl h4
    ·injection h4 with h4;subst h4;exact .inr (by simp only at h5;omega)
    ·exact .inr (by omega)
   ·have bj:(e0 != 0)=true:=by simpa using ab
    have aB:(e0==0)=false:=by simpa using ab
    have aK:Hid (Z=(E,e0)):=hid (by rw[HZ.out,aP.out];unfold refuse;rw[if_neg ab]);clear ab;repeat (first|go_skip|go_guarded|go_step|go_upon)
    go_ret;rw[aK.out];exact⟨rfl,does_below av.out aw.out ⟨adr,x,aj.out⟩ B7.out⟩
 ·have HZ:=hid (a9.out h0);have bj:(er != 0)=true:=by simpa using h0
  have aB:(er==0)=false:=by simpa using h0
  clear am aq ac h0;repeat (first|go_skip|go_guarded|go_step|go_upon)
  go_ret;rw[HZ.out];exact⟨rfl,av.out,S1,aw.out,adr,x,aj.out⟩
end DG
end
section
open Go.RowKit Go.Lib Go.BigFrame
namespace DG
open OM TP TM DP DM TG TR FP
theorem diskX_boot{S:Nat->Prop}{w w':World}{P:Nat}{D:Dk}{adr:Int->Nat}{pend:List Nd}{x:Parts}{fs:List Fate}{es:List Edit}{v1 v2:Value}{evs:List Ev}(h:DiskX S w P D adr pend x)(ho:Out (fun k=>k=P) w w')
  (hr:w'.heap[P]?=some (.cells #[x.vn,x.vs,x.vc,.bool true,.int .i64 (D.inos.length:Nat),.int .i64 (D.clock:Nat),v1,v2,.slice none 0 0] 122 (0,0)))
  (h1:w'.ownsRow w.heap.size 116 4 v1 fs.length (fatesC fs)) (h2:w'.ownsRow w.heap.size 86 3 v2 es.length (editsC es evs)) (hl:evs.length=es.length)
  (hv:∀(j:Nat) (e:Edit) (v:Ev),es[j]?=some e->evs[j]?=some v->w'.ownsRow w.heap.size 45 4 (.slice v.a e.value.length v.c) e.value.length (nodesC e.value)) :
  DiskX (fun k=>S k\/(w.heap.size<=k/\k<w'.heap.size)) w' P (bootD D fs es) adr pend { x with vf:=v1,ve:=v2,vt:=.slice none 0 0,evs:=evs }:=by
 have hs:=ho.size;have bf:=(Array.getElem?_eq_some_iff.1 h.row).1;have same:∀ k,S k->w'.heap[k]?=w.heap[k]?:=fun k hk=>ho.block k (h.lt k hk) (fun e=>h.np (e ▸ hk));have eF:=h.rest.keep hs same;refine⟨hr,?_,fun k hk=>?_,?_,fit_clock h.fit D.clock false [] fs es⟩
 ·have up:=eF.sup (T:=fun k=>S k\/(w.heap.size<=k/\k<w'.heap.size)) (fun k hk=>.inl hk)
  exact {
   names:=up.names
   nin:=up.nin
   safe:=up.safe
   sin:=up.sin
   apart:=up.apart
   ch:=up.ch
   chin:=up.chin
   each:=up.each
   crow:=up.crow
   later:=up.later
   ends:=up.ends
   lens:=up.lens
   inos:=up.inos
   iin:=up.iin
   inj:=up.inj
   fates:=owns_base h1 0 (Nat.zero_le _)
   fin:=fun g hg=>.inr (h1.lt g hg)
   edits:=owns_base h2 0 (Nat.zero_le _)
   ein:=fun g hg=>.inr (h2.lt g hg)
   elen:=hl
   vals:=fun j e v he cS=>by
    have h3:=hv j e v he cS;refine⟨owns_base h3 0 (Nat.zero_le _),fun a ha=>.inr (h3.lt a.block ?_)⟩;rw[ha];rfl
   trace:=World.ownsRow_nil _ _ _ _
   tin:=fun g hg=>by cases hg }
 ·rcases hk with hk|hk
  ·exact Nat.lt_of_lt_of_le (h.lt k hk) hs
  ·exact hk.2
 ·rintro (hk|hk)
  ·exact h.np hk
  ·omega
theorem dboot_nil(S:Nat->Prop)(w:World)(P:Nat)(D:Dk)(fs:List Fate)(af:Option Addr)(cf:Nat)(h:Disk S w P D)(hf:∀ ad,af=some ad->∀(j:Nat) (u:Value),(fatesC fs)[j]?=some u->w.cell? (ad.add j)=some u)
  (hff:∀ ad,af=some ad->ad.block≠P/\ad.block<w.heap.size) (bD:af=none->fs.length=0/\cf=0) (hl:fs.length<=1048576) :
  Calls Tryz.prog 17 #[.pointer (some ⟨P,0,none⟩),.slice af fs.length cf,.slice none 0 0] w fun r w'=>r=.returned (.tuple #[])/\Does S P w.heap.size w (bootD D fs []) w':=by
 obtain⟨adr,x,h⟩:=h;have hr:=h.row;unfold diskC at hr;have bf:=(Array.getElem?_eq_some_iff.1 hr).1
 have cj:∀ l:List Fate,(fatesC l).length=l.length*4:=fun l=>by
  induction l with
  | nil=>rfl
  | cons a l ih =>
   show(fateC a++fatesC l).length=_;rw[List.length_append,ih,List.length_cons];show 4+_=_;omega
 have ck:∀ l:List Fate,∀ u∈fatesC l,u.oneCell'=true:=fun l u hu=>by
  obtain⟨f,_,hu⟩:=List.mem_flatMap.1 hu;unfold fateC at hu;simp at hu;rcases hu with rfl|rfl|rfl|rfl<;>rfl
 have R1:Hid (((w.setCell ⟨P,3,none⟩ (.bool true)).setCell ⟨P,8,none⟩ (.slice none 0 0)).heap[P]?=some (.cells #[x.vn,x.vs,x.vc,.bool true,.int .i64 (D.inos.length:Nat),.int .i64 (D.clock:Nat),x.vf,x.ve,.slice none 0 0] 122 (0,0))):=hid (row_set (j:=8) (row_set (j:=3) hr _) _);have U1:Hid (Out (fun k=>k=P) w ((w.setCell ⟨P,3,none⟩ (.bool true)).setCell ⟨P,8,none⟩ (.slice none 0 0))):=hid (((Out.refl (fun k=>k=P) w).setCell (p:=⟨P,3,none⟩) (fun _=>rfl) _).setCell (p:=⟨P,8,none⟩) (fun _=>rfl) _);have Z1:Hid (((w.setCell ⟨P,3,none⟩ (.bool true)).setCell ⟨P,8,none⟩ (.slice none 0 0)).heap.size=w.heap.size):=hid (by simp[set_size])
 have CF:Hid (Calls Tryz.prog 69 #[.slice af fs.length cf] ((w.setCell ⟨P,3,none⟩ (.bool true)).setCell ⟨P,8,none⟩ (.slice none 0 0)) (ClPost 116 4 fs.length (fatesC fs) ((w.setCell ⟨P,3,none⟩ (.bool true)).setCell ⟨P,8,none⟩ (.slice none 0 0)))):=hid (clF_any af fs.length cf (fatesC fs) _ (fun ad ha j u hu=>by
  have h1:=hf ad ha j u hu;obtain⟨h2,h3⟩:=hff ad ha;have el:(ad.add j).block=ad.block:=by unfold Addr.add;split<;>rfl
  exact(U1.out.cell (p:=ad.add j) (el ▸ h3) (fun e=>h2 (el ▸ e))).trans h1) (cj fs) (ck fs) bD (by omega))
 have CU:Hid (∀ W,Calls Tryz.prog 70 #[.slice none 0 0] W (ClPost 86 3 0 [] W)):=hid (fun W=>clU_any none 0 0 [] W (fun ad ha=>by cases ha) rfl (fun u hu=>by cases hu) (fun _=>⟨rfl,rfl⟩) (by omega));obtain⟨n,hn⟩:∃ n,fs.length=n:=⟨_,rfl⟩;have HN:=hid hn;rw[hn]at CF ⊢;have HX:=hid h;obtain⟨-,-,-,c3,-,-,-,-,c8,fB⟩:=row9 hr;clear h hr hf hff bD cj ck hn;go_enter Tryz.func17,Tryz.ntmps17;repeat (first|go_skip|go_guarded|go_step|go_upon)
 refine CF.out.mono ?_;rintro r w2 ⟨v1,rfl,bO,ay⟩;simp only[];obtain⟨a1,k1,cC,_⟩:=owns_view bO;subst cC;have B1:=hid ay;have eR:=hid bO;clear bO ay;repeat (first|go_skip|go_guarded|go_step|go_upon)
 refine(CU.out w2).mono ?_;rintro r w3 ⟨v2,rfl,ca,al⟩;simp only[];obtain⟨a2,k2,cS,_⟩:=owns_view ca;subst cS;have B2:=hid al;have fd:=hid ca;have ew:P<((w.setCell ⟨P,3,none⟩ (.bool true)).setCell ⟨P,8,none⟩ (.slice none 0 0)).heap.size:=by rw[Z1.out];exact bf
 have fc:P<w2.heap.size:=Nat.lt_of_lt_of_le ew B1.out.size;have R3:=hid ((al.block P fc).trans ((B1.out.block P ew).trans R1.out));obtain⟨-,-,-,-,-,-,d6,d7,-,df⟩:=row9 R3.out;clear ca al;repeat (first|go_skip|go_guarded|go_step|go_upon)
 have U3:Hid (Out (fun k=>k=P) w ((w3.setCell ⟨P,6,none⟩ (.slice a1 n k1)).setCell ⟨P,7,none⟩ (.slice a2 0 k2))):=hid (((((U1.out.thenBelow B1.out).thenBelow B2.out)).setCell (p:=⟨P,6,none⟩) (fun _=>rfl) _).setCell (p:=⟨P,7,none⟩) (fun _=>rfl) _);have R4:=hid (row_set (j:=7) (row_set (j:=6) R3.out (.slice a1 n k1)) (.slice a2 0 k2));have bG:=B1.out.size;have dQ:=B2.out.size;have eA:=Z1.out
 have HA:Hid (((w3.setCell ⟨P,6,none⟩ (.slice a1 n k1)).setCell ⟨P,7,none⟩ (.slice a2 0 k2)).ownsRow w.heap.size 116 4 (.slice a1 n k1) n (fatesC fs)):=hid (by
  have h1:=owns_below eR.out B2.out;rw[eA]at h1;refine own_same h1 fun g hg=>?_;have c6:g≠P:=fun e=>by have:=(h1.lt g hg).1;omega
  exact(set_other _ P 7 g _ c6).trans (set_other _ P 6 g _ c6))
 have dK:Hid (((w3.setCell ⟨P,6,none⟩ (.slice a1 n k1)).setCell ⟨P,7,none⟩ (.slice a2 0 k2)).ownsRow w.heap.size 86 3 (.slice a2 0 k2) 0 []):=hid (by
  have h1:=owns_base fd.out w.heap.size (by omega);refine own_same h1 fun g hg=>?_;have c6:g≠P:=fun e=>by have:=(h1.lt g hg).1;omega
  exact(set_other _ P 7 g _ c6).trans (set_other _ P 6 g _ c6))
 obtain⟨w4,dA⟩:∃ W,(w3.setCell ⟨P,6,none⟩ (.slice a1 n k1)).setCell ⟨P,7,none⟩ (.slice a2 0 k2)=W:=⟨_,rfl⟩;rw[dA]at U3 R4 HA dK;try rw[dA]
 clear dA
 go_loopw [28] (fun s28 wr=>s28=.int .i64 0/\w4=wr) (fun _ _=>0)
 case atStart=>exact⟨rfl,rfl⟩
 case round =>
  obtain⟨rfl,rfl⟩:=hrel;repeat (first|go_skip|go_guarded|go_step|go_upon)
  go_end0
  have hD:=diskX_boot (fs:=fs) (es:=[]) (evs:=[]) (v1:=.slice a1 n k1) (v2:=.slice a2 0 k2) HX.out U3.out R4.out (by rw[HN.out];exact HA.out) dK.out rfl (fun j e v he _=>by simp at he);exact⟨rfl,U3.out.mono (fun k _ hk=>.inr hk),_,fun k hk=>hk.imp id (·.1),adr,_,hD⟩
end DG
end
section
open Go.RowKit Go.Lib Go.BigFrame
namespace DG
open OM TP TM DP DM TG TR FP
theorem tree_of(S:Nat->Prop)(w:World)(P:Nat)(D:Dk)(h:Disk S w P D) :
  Calls Tryz.prog 15 #[.pointer (some ⟨P,0,none⟩)] w (TR.AtPost (treeD D) w):=by
 obtain⟨adr,x,h⟩:=h;obtain⟨ao,cap,ag,bi,di,bD,fp⟩:=layE_own h.rest.names;have CT:=hid (dtree_any adr ao cap D.names D.inos w bi (h.rest.inos.sub (fun e he=>by unfold liveL;exact mem_append_right _ (mem_append_left _ he))) h.fit.names);have hr:=h.row;unfold diskC at hr;rw[ag]at hr;obtain⟨n,hn⟩:∃ n,D.names.length=n:=⟨_,rfl⟩;rw[hn]at CT hr;obtain⟨c0,-,-,-,-,-,-,-,-,-⟩:=row9 hr;obtain⟨t,ht⟩:∃ t,treeD D=t:=⟨_,rfl⟩;have dL:D.names.map (nodeOf D.inos)=t:=ht;rw[dL]at CT;rw[ht];clear h ag bi di bD fp hr hn ht dL;go_enter Tryz.func15,Tryz.ntmps15;repeat (first|go_skip|go_guarded|go_step|go_upon)
 refine CT.out.mono ?_;rintro r w1 ⟨v,rfl,ho,hb⟩;simp only[];have HO:=hid ho;have HB:=hid hb;clear ho hb;obtain⟨a1,k1,cC,_⟩:=owns_view HO.out;subst cC;repeat (first|go_skip|go_guarded|go_step|go_upon)
 go_ret;exact⟨_,rfl,HO.out,HB.out⟩
theorem trace_of(S:Nat->Prop)(w:World)(P:Nat)(D:Dk)(h:Disk S w P D)(hl:D.trace.length<=1000000) :
  Calls Tryz.prog 16 #[.pointer (some ⟨P,0,none⟩)] w (ClPost 75 3 D.trace.length (didsC D.trace) w):=by
 obtain⟨adr,x,h⟩:=h;obtain⟨ao,cap,cE,hx⟩:=owns_view h.rest.trace
 have bQ:∀ l:List Did,(didsC l).length=l.length*3:=fun l=>by
  induction l with
  | nil=>rfl
  | cons a l ih =>
   show(didC a++didsC l).length=_;rw[List.length_append,ih,List.length_cons];show 3+_=_;omega
 have done:∀ l:List Did,∀ u∈didsC l,u.oneCell'=true:=fun l u hu=>by
  obtain⟨f,_,hu⟩:=List.mem_flatMap.1 hu;exact did_one f u hu
 have bB:ao=none->D.trace.length=0/\cap=0:=fun ha=>by
  rcases h.rest.trace.2 with ⟨e1,e2⟩|⟨g,cp,fe,e1,_⟩
  ·rw[cE]at e1;injection e1 with _ e3 e4;exact⟨e3,e4⟩
  ·rw[cE,ha]at e1;injection e1 with e1;cases e1
 have CT:=hid (clD_any ao D.trace.length cap (didsC D.trace) w (fun ad ha j u hu=>by
  have bC:j<(didsC D.trace).length:=(List.getElem?_eq_some_iff.1 hu).1;have hd:=bQ D.trace;obtain⟨g,h1,_,_,h3⟩:=hx (by omega);rw[h1]at ha;injection ha with ha;subst ha;have e1:(⟨g,0,none⟩:Addr).add j=⟨g,j,none⟩:=by simp[Addr.add];omega
  rw[e1]
  exact(h3 j (by omega)).trans hu) (bQ _) (done _) bB (by omega))
 have hr:=h.row;unfold diskC at hr;rw[cE]at hr;obtain⟨n,hn⟩:∃ n,D.trace.length=n:=⟨_,rfl⟩;rw[hn]at CT hr ⊢;obtain⟨-,-,-,-,-,-,-,-,c8,-⟩:=row9 hr;clear h cE hx hr hn bQ done bB hl;go_enter Tryz.func16,Tryz.ntmps16;repeat (first|go_skip|go_guarded|go_step|go_upon)
 refine CT.out.mono ?_;rintro r w1 ⟨v,rfl,ho,hb⟩;simp only[];have HO:=hid ho;have HB:=hid hb;clear ho hb;obtain⟨a1,k1,cC,_⟩:=owns_view HO.out;subst cC;repeat (first|go_skip|go_guarded|go_step|go_upon)
 go_ret;exact⟨_,rfl,HO.out,HB.out⟩
theorem tree_nil(w:World):Calls Tryz.prog 15 #[.pointer none] w fun r w'=>r=.returned (.slice none 0 0)/\w=w':=by
 go_enter Tryz.func15,Tryz.ntmps15;repeat (first|go_skip|go_guarded|go_step|go_upon)
 go_ret;exact⟨rfl,rfl⟩
theorem trace_nil(w:World):Calls Tryz.prog 16 #[.pointer none] w fun r w'=>r=.returned (.slice none 0 0)/\w=w':=by
 go_enter Tryz.func16,Tryz.ntmps16;repeat (first|go_skip|go_guarded|go_step|go_upon)
 go_ret;exact⟨rfl,rfl⟩
theorem steps_nil(w:World):Calls Tryz.prog 14 #[.pointer none] w fun r w'=>r=.returned (.int .i64 0)/\w=w':=by
 go_enter Tryz.func14,Tryz.ntmps14;repeat (first|go_skip|go_guarded|go_step|go_upon)
 go_ret;exact⟨rfl,rfl⟩
end DG
end
end Go.Proofs.YtkmcjededpamnaaGreatDoor
