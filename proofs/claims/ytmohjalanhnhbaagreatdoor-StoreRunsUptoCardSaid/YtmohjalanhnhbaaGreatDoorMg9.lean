/- Texts of this seat, put one behind the other: what its statements share (part 9). -/
import Derived.Test.YtmohjalanhnhbaaGreatDoorMg8
import Derived.Test.YtmohjalanhnhbaaGreatDoorMg3
set_option linter.all false
set_option maxRecDepth 100000
set_option maxHeartbeats 25600000
section
namespace Go.Proofs.YtmohjalanhnhbaaGreatDoor
open Go.RowKit Go.Lib Go.BigFrame
namespace DG
open OM TP TM DP DM TG TR FP
theorem on_any (w:World) (p:Nat) (b:Bool) (a0 a1 a2 a4 a5 a6 a7 a8:Value) (hr:w.heap[p]?=some (.cells #[a0,a1,a2,.bool b,a4,a5,a6,a7,a8] 122 (0,0))) :
  Calls Tryz.prog 13 #[.pointer (some ⟨p,0,none⟩)] w fun r w'=>r=.returned (.bool b)/\w=w':=by
 obtain⟨-,-,-,c3,-,-,-,-,-,-⟩:=row9 hr
 clear hr
 go_enter Tryz.func13,Tryz.ntmps13
 repeat (first|go_skip|go_guarded|go_step|go_upon)
 go_ret
 exact⟨rfl,rfl⟩
theorem steps_any (w:World) (p:Nat) (ao:Option Addr) (n c:Nat) (a0 a1 a2 a3 a4 a5 a6 a7:Value) (hr:w.heap[p]?=some (.cells #[a0,a1,a2,a3,a4,a5,a6,a7,.slice ao n c] 122 (0,0))) :
  Calls Tryz.prog 14 #[.pointer (some ⟨p,0,none⟩)] w fun r w'=>r=.returned (.int .i64 n)/\w=w':=by
 obtain⟨-,-,-,-,-,-,-,-,c8,-⟩:=row9 hr
 clear hr
 go_enter Tryz.func14,Tryz.ntmps14
 repeat (first|go_skip|go_guarded|go_step|go_upon)
 go_ret
 exact⟨rfl,rfl⟩
end DG
end Go.Proofs.YtmohjalanhnhbaaGreatDoor
end

section
namespace Go.Proofs.YtmohjalanhnhbaaGreatDoor
open Go.RowKit Go.Lib Go.BigFrame
namespace DG
open OM TP TM DP DM TG TR FP
theorem infoDid:(Tryz.prog.info? 75).map (fun i=>(i.zero,i.size,i.bytes))=some (some (.agg #[.string ⟨#[]⟩,.string ⟨#[]⟩,.string ⟨#[]⟩]),3,48):=by kernel_rfl
theorem edits_at:∀ (es:List Edit) (vs:List Ev) (k:Nat) (e:Edit) (v:Ev),es[k]?=some e->vs[k]?=some v ->
  (editsC es vs)[k*3]?=some (.int .i64 e.at_)/\(editsC es vs)[k*3+1]?=some (txt e.path)/\(editsC es vs)[k*3+2]?=some (.slice v.a e.value.length v.c)
 | [],_,k,n,_,h,_=>by simp at h
 | _::_,[],k,n,_,_,h=>by simp at h
 | x::ts,y::us,0,n,m,h,h2=>by
  simp at h h2
  subst h h2
  exact⟨rfl,rfl,rfl⟩
 | x::ts,y::us,k+1,n,m,h,h2=>by
  rw [List.getElem?_cons_succ] at h h2
  have ih:=edits_at ts us k n m h h2
  have e:∀ j,(editsC (x::ts) (y::us))[(k+1)*3+j]?=(editsC ts us)[k*3+j]?:=fun j=>by
   show (editV (x,y)++editsC ts us)[_]?=_
   rw [List.getElem?_append_right (by show 3<=_;omega)]
   congr 1
   show _-3=_
   omega
  exact⟨(e 0).trans ih.1,(e 1).trans ih.2.1,(e 2).trans ih.2.2⟩
theorem wide_own {W:World} {b:Nat} {a:Option Addr} {c:Nat} {l:List Nd} (h:W.ownsRow b 45 4 (.slice a l.length c) l.length (nodesC l)) (hl:TW.LongG l/\l.length<=maxLen):TW.Wide W a c l:=by
 rcases h.2 with ⟨e1,e2⟩|⟨g,cp,cur,e1,e2,e3,e4,e5,e6,e7⟩
 ·injection e1 with e1 _ e3
  subst e1 e3
  have hnil:l=[]:=List.eq_nil_of_length_eq_zero (by exact e2)
  rw [hnil]
  exact TW.Wide.nil W
 ·obtain⟨ao',c',hx1,hx2⟩:=lay_own h
  injection hx1 with hx1 _ _
  injection e1 with e1 _ e3
  refine⟨by rw [hx1];exact hx2,(fun e=>by rw [e] at e1;cases e1),by rw [e3];exact e4,hl.1,hl.2⟩
def EdsAt (S:Nat->Prop) (P:Nat) (w:World) (X:Dk) (S1:Nat->Prop) (wr:World):Prop :=
 Out (fun k=>Nm S w k∨k=P) w wr/\(∀ k,S1 k->S k∨w.heap.size<=k)/\Disk S1 wr P X
theorem EdsAt.edit {S S1:Nat->Prop} {P:Nat} {w wr w6:World} {X X':Dk} (h:EdsAt S P w X S1 wr) (hd:DoesN S1 P wr X' w6):∃ S2,EdsAt S P w X' S2 w6:=by
 obtain⟨ho,hs,_⟩:=h
 obtain⟨hu2,S2,hs2,hd2⟩:=hd
 have hz:=ho.size
 refine⟨S2,ho.then hu2 (fun j hj hT=>?_),fun k hk=>?_,hd2⟩
 ·rcases hT with ⟨hT,hT2⟩|hT
  ·rcases hs j hT with h1|h1
   ·by_cases hjp:j=P
    ·exact .inr hjp
    ·by_cases hn:Nm S w j
     ·exact .inl hn
     ·have hb:=(ho.block j hj (fun e=>e.elim hn hjp)).symm
      exact .inl ⟨h1,hT2.imp (·.same hb) (·.same hb)⟩
   ·omega
  ·exact .inr hT
 ·rcases hs2 k hk with h1|h1
  ·exact hs k h1
  ·exact .inr (by omega)
theorem EdsAt.below {S S1:Nat->Prop} {P:Nat} {w wr w6:World} {X:Dk} (h:EdsAt S P w X S1 wr) (hb:Below wr.heap.size wr w6):EdsAt S P w X S1 w6:=by
 obtain⟨ho,hs,adr,hd⟩:=h
 exact⟨ho.thenBelow hb,hs,adr,hd.below hb⟩
def EdsInv (S:Nat->Prop) (P:Nat) (D1:Dk) (T:Nat) (es:List Edit) (n:Nat) (w:World) (s27:Value) (wr:World):Prop :=
 ∃ (k:Nat) (S1:Nat->Prop),s27=.int .i64 k/\k<=n/\EdsAt S P w (editsD D1 T (es.take k)) S1 wr
theorem did_new (W:World) (g:Nat) (hg:g=W.heap.size) (c:Did) (a b d:Value) (ha:txt c.call=a) (hb:txt c.path=b) (hd:txt c.to=d) (t:TypeId) :
  ∀ (j:Nat) (u:Value),(didC c)[j]?=some u->(W.alloc (.cells #[a,b,d] t)).cell? ((⟨g,0,none⟩:Addr).add j)=some u:=by
 subst hg ha hb hd
 obtain⟨c0,c1,c2,_⟩:=row3 (heap_alloc_new W (.cells #[txt c.call,txt c.path,txt c.to] t))
 intro j u hu
 have e1:(⟨W.heap.size,0,none⟩:Addr).add j=⟨W.heap.size,j,none⟩:=by simp [Addr.add];omega
 rw [e1]
 match j with
 | 0=>exact c0.trans hu
 | 1=>exact c1.trans hu
 | 2=>exact c2.trans hu
 | j+3=>cases hu
theorem did_one (c:Did):∀ u∈didC c,u.oneCell'=true:=by
 obtain⟨a,ha,_⟩:=txt_of c.call
 obtain⟨b,hb,_⟩:=txt_of c.path
 obtain⟨d,hd,_⟩:=txt_of c.to
 unfold didC
 rw [ha,hb,hd]
 intro u hu
 simp at hu
 rcases hu with rfl|rfl|rfl<;>rfl
theorem EdsAt.does {S S1:Nat->Prop} {P:Nat} {w wr w6:World} {X X':Dk} (h:EdsAt S P w X S1 wr) {S2:Nat->Prop} (ho:Out (fun k=>S1 k∨k=P) wr w6) (hs:∀ k,S2 k->S1 k∨wr.heap.size<=k) (hd:Disk S2 w6 P X'):Does S P w.heap.size w X' w6:=by
 obtain⟨h1,h2,_⟩:=h
 have hz:=h1.size
 refine⟨(h1.mono (fun k _ hk=>hk.imp (·.1) id)).then ho (fun j hj hT=>?_),S2,fun k hk=>?_,hd⟩
 ·rcases hT with hT|hT
  ·rcases h2 j hT with h3|h3
   ·exact .inl h3
   ·omega
  ·exact .inr hT
 ·rcases hs k hk with h3|h3
  ·exact h2 k h3
  ·exact .inr (by omega)
theorem step_any (S:Nat->Prop) (w:World) (P m:Nat) (D:Dk) (c:Did) (h:Disk S w P D) (he:NF.Env w) (hH:Hi S P) (hm:Num m D) (hm2:m<=100000) :
  Calls Tryz.prog 56 #[.pointer (some ⟨P,0,none⟩),txt c.call,txt c.path,txt c.to] w fun r w'=>r=.returned (.int .i64 (stepD D c).2)/\Does S P w.heap.size w (stepD D c).1 w':=by
 obtain⟨i0,hi0,hz0,hz1,hz2⟩:=info_parts infoDid
 obtain⟨adr,x,h⟩:=h
 have hr:=h.row
 unfold diskC at hr
 have hpl:=(Array.getElem?_eq_some_iff.1 hr).1
 obtain⟨Y1,hY1,_⟩:=txt_of c.call
 obtain⟨Y2,hY2,_⟩:=txt_of c.path
 obtain⟨Y3,hY3,_⟩:=txt_of c.to
 rw [hY1,hY2,hY3]
 have HX:=Lib.hid h
 have HE:=Lib.hid he
 have HH:=Lib.hid hH
 have HM:=Lib.hid hm
 have HY1:=Lib.hid hY1
 have HY2:=Lib.hid hY2
 have HY3:=Lib.hid hY3
 obtain⟨Z,hZ⟩:∃ Z,stepD D c=Z:=⟨_,rfl⟩
 have HZ:=Lib.hid hZ
 rw [hZ]
 have CO:=Lib.hid (on_any w P _ _ _ _ _ _ _ _ _ hr)
 cases hoff:D.off with
 | true =>
  rw [hoff] at CO
  have HZ2:Hid (Z=(D,75)):=Lib.hid (by rw [<- HZ.out];unfold stepD;rw [if_pos hoff])
  clear h he hH hm hY1 hY2 hY3 hZ hr hoff
  go_enter Tryz.func56,Tryz.ntmps56
  repeat (first|(go_at_call 13;refine CO.out.mono ?_;rintro r w2 ⟨rfl,rfl⟩;simp only [])|go_skip|go_guarded|go_step|go_upon)
  go_ret
  rw [HZ2.out]
  exact⟨rfl,Out.refl _ _,S,fun k hk=>.inl hk,adr,x,HX.out⟩
 | false =>
  obtain⟨ae,ce,hve,hex⟩:=owns_view h.rest.edits
  obtain⟨es,hes⟩:∃ es,D.edits=es:=⟨_,rfl⟩
  obtain⟨n,hn⟩:∃ n,es.length=n:=⟨_,rfl⟩
  obtain⟨T,hT⟩:∃ n,D.trace.length=n:=⟨_,rfl⟩
  obtain⟨cz,hcz⟩:∃ n,D.clock=n:=⟨_,rfl⟩
  obtain⟨c1,hc1⟩:∃ n,cz+1=n:=⟨_,rfl⟩
  obtain⟨D1,hD1⟩:∃ X:Dk,{ D with clock:=c1 }=X:=⟨_,rfl⟩
  have hcw:IntKind.i64.wrap ((cz:Int)+1)=(c1:Int):=by
   rw [IntKind.wrap_i64]
   have:=hm.clock
   omega
  rw [hoff] at CO
  rw [hve,hcz,hoff,hes,hn] at hr
  rw [hes,hn] at hex
  have hZs:Z=if (fateD (begunD D c)).what=3 then (crashD (begunD D c) (fateD (begunD D c)).keep (fateD (begunD D c)).torn,75) else if (fateD (begunD D c)).what=1 then (begunD D c,70) else (begunD D c,0):=by
   rw [<- hZ]
   unfold stepD
   rw [if_neg (by rw [hoff];exact Bool.false_ne_true)]
  have HZs:=Lib.hid hZs
  have HB:Hid (begunD D c={ editsD D1 T es with trace:=(editsD D1 T es).trace++[c] }):=Lib.hid (by
   unfold begunD
   rw [<- hD1,← hc1,← hcz,hT,hes])
  have HEt:Hid ((editsD D1 T es).trace.length=T):=Lib.hid (by
   rw [(edits_same D1 T es).2.1,← hD1]
   exact hT)
  have HEx:Hid (0<n->∃ g,ae=some ⟨g,0,none⟩/\g<w.heap.size/\∀ wr,Out (fun k=>Nm S w k∨k=P) w wr->∀ j,j<n*3->wr.cell? ⟨g,j,none⟩=(editsC es x.evs)[j]?):=Lib.hid (fun h0=>by
   obtain⟨g,h1,h2,_,h3⟩:=hex h0
   refine⟨g,h1,h2,fun wr ho j hj=>(ho.cell (p:=⟨g,j,none⟩) h2 ?_).trans (h3 j hj)⟩
   have hg:x.ve.ownBlock=some g:=by rw [hve,h1];rfl
   have ht:=own_type h.rest.edits g hg
   rintro (⟨_,h4|h4⟩|h4)
   ·exact ht.ne h4 (by decide) rfl
   ·exact ht.ne h4 (by decide) rfl
   ·exact h.np (h4 ▸ h.rest.ein g hg))
  have HVals:Hid (∀ (k:Nat) (e:Edit),es[k]?=some e->∃ v:Ev,x.evs[k]?=some v/\∀ wr,Out (fun k=>Nm S w k∨k=P) w wr->TW.Wide wr v.a v.c e.value/\e.path.length<=maxLen):=Lib.hid (fun k e hk=>by
   have hlen:=h.rest.elen
   have hk1:=(List.getElem?_eq_some_iff.1 hk).1
   rw [hes] at hlen
   refine⟨x.evs[k]'(by omega),List.getElem?_eq_getElem _,fun wr ho=>?_⟩
   have hin:e∈D.edits:=by rw [hes];exact List.mem_of_getElem? hk
   obtain⟨h1,h2⟩:=h.rest.vals k e _ (by rw [hes];exact hk) (List.getElem?_eq_getElem (by omega))
   refine⟨wide_own (own_same h1 fun g hg=>?_) (hm.long e hin),hm.path e hin⟩
   have ht:=own_type h1 g hg
   have hgS:S g:=by
    cases ha:(x.evs[k]'(by omega)).a with
    | none=>rw [ha] at hg;cases hg
    | some a =>
     rw [ha] at hg
     injection hg with hg
     rw [<- hg]
     exact h2 a ha
   refine ho.block g (h.lt g hgS) ?_
   rintro (⟨_,h4|h4⟩|h4)
   ·exact ht.ne h4 (by decide) rfl
   ·exact ht.ne h4 (by decide) rfl
   ·exact h.np (h4 ▸ hgS))
  have HBd:Hid (∀ k,k<=n->(editsD D1 T (es.take k)).inos.length<=2305843009213693952/\(editsD D1 T (es.take k)).later.length<=549755813888):=Lib.hid (fun k hk=>by
   obtain⟨_,_,_,_,_,h6,h7⟩:=edits_same D1 T (es.take k)
   have a1:=hm.later
   have a2:=hm.inos
   have a3:=hm.edits
   rw [hes,hn] at a3
   have b1:D1.later=D.later:=by rw [<- hD1]
   have b2:D1.inos=D.inos:=by rw [<- hD1]
   rw [List.length_take] at h6 h7
   rw [b1] at h6
   rw [b2] at h7
   have hk1:m*2097152<=100000*2097152:=Nat.mul_le_mul_right _ hm2
   have hk2:m*2147483648<=100000*2147483648:=Nat.mul_le_mul_right _ hm2
   constructor<;>omega)
  have HN:Hid (es.length=n):=Lib.hid hn
  have hnm:n<=1048576:=by have:=hm.edits;rw [hes,hn] at this;exact this
  have htm:T<=1000000:=by have:=hm.trace;omega
  have D0:Hid (EdsAt S P w (editsD D1 T (es.take 0)) S (w.setCell ⟨P,5,none⟩ (.int .i64 (c1:Nat)))):=Lib.hid (by
   rw [edits_zero,← hD1]
   exact⟨(Out.refl _ w).setCell (p:=⟨P,5,none⟩) (fun _=>.inr rfl) _,fun k hk=>.inl hk,adr,x,diskX_clock h c1⟩)
  have hr1:=row_set (j:=5) hr (.int .i64 (c1:Nat))
  obtain⟨-,-,-,-,-,d5,-,-,-,df⟩:=row9 hr
  have R1:Hid ((w.setCell ⟨P,5,none⟩ (.int .i64 (c1:Nat))).heap[P]?=some (.cells #[x.vn,x.vs,x.vc,.bool (!false),.int .i64 (D.inos.length:Nat),.int .i64 (c1:Nat),x.vf,.slice ae n ce,x.vt] 122 (0,0))):=Lib.hid hr1
  obtain⟨-,-,-,-,-,-,-,q7,-,-⟩:=row9 R1.out
  clear h he hH hm hY1 hY2 hY3 hZ hr hoff hZs hex hve hes hn hT hcz hc1 hD1 hr1
  go_enter Tryz.func56,Tryz.ntmps56
  repeat (first|(go_at_call 13;refine CO.out.mono ?_;rintro r w2 ⟨rfl,rfl⟩;simp only [])|go_skip|go_guarded|go_step|go_upon)
  go_loopw [27] (fun s27 wr=>EdsInv S P D1 T es n w s27 wr) (fun s27 _=>n-(Go.RowKit.intOf s27).toNat)
  case atStart=>exact⟨0,S,rfl,Nat.zero_le _,D0.out⟩
  case round =>
   obtain⟨k,S1,rfl,hk,hat⟩:=hrel
   have HAt:=Lib.hid hat
   by_cases hlt:k<n
   ·have hkz:(k:Int)<n:=by omega
    obtain⟨e,hee⟩:∃ e,es[k]?=some e:=⟨es[k]'(by rw [HN.out];exact hlt),List.getElem?_eq_getElem _⟩
    obtain⟨g,rfl,hg,hc⟩:=HEx.out (by omega)
    obtain⟨v,hv,hw⟩:=HVals.out k e hee
    obtain⟨y0,y1,y2⟩:=edits_at es x.evs k e v hee hv
    obtain⟨hw1,hw2⟩:=hw wr hat.1
    have e0:=(hc wr hat.1 _ (by omega)).trans y0
    have e1:=(hc wr hat.1 _ (by omega)).trans y1
    have e2:=(hc wr hat.1 _ (by omega)).trans y2
    obtain⟨ea,ep,ev⟩:=e
    obtain⟨va,vc⟩:=v
    simp only at e0 e1 e2 hw1 hw2
    obtain⟨Y,hY,_⟩:=txt_of ep
    obtain⟨ln,hln⟩:∃ n,ev.length=n:=⟨_,rfl⟩
    rw [hY] at e1
    rw [hln] at e2
    obtain⟨adr1,x1,h1⟩:=hat.2.2
    obtain⟨X,hX⟩:∃ X,editsD D1 T (es.take k)=X:=⟨_,rfl⟩
    obtain⟨at1,ct1,hvt1,_⟩:=owns_view h1.rest.trace
    have htl1:(editsD D1 T (es.take k)).trace.length=T:=by
     rw [(edits_same D1 T (es.take k)).2.1,← (edits_same D1 T es).2.1]
     exact HEt.out
    rw [htl1] at hvt1
    have hr1:=h1.row
    unfold diskC at hr1
    rw [hvt1] at hr1
    obtain⟨bd1,bd2⟩:=HBd.out k hk
    have hsu:editsD D1 T (es.take (k+1))=if ea=(T:Int) then editD X ep ev else X:=by rw [edits_succ D1 T hee,hX]
    rw [hX] at h1 bd1 bd2 hat
    have HD:Hid (DiskA S1 wr P X adr1 []):=Lib.hid ⟨x1,h1⟩
    have HAt2:=Lib.hid hat
    have HS:=Lib.hid hsu
    have HW:=Lib.hid hw1
    obtain⟨-,-,-,-,-,-,-,-,d8,-⟩:=row9 hr1
    have RV:Hid ((wr.alloc (.cells #[.int .i64 ea,.string Y,.slice va ln vc] 86)).heap[wr.heap.size]?=some (.cells #[.int .i64 ea,.string Y,.slice va ln vc] 86 (0,0))):=Lib.hid (heap_alloc_new wr _)
    have z0:=cell_regrown (row3 RV.out).1
    have z8:=cell_regrown (cell?_alloc_some (.cells #[.int .i64 ea,.string Y,.slice va ln vc] 86) d8)
    have hos:=hat.1.size
    have CE:Hid (∀ w5,Below wr.heap.size wr w5->Calls Tryz.prog 117 #[.pointer (some ⟨P,0,none⟩),.string Y,.slice va ln vc] w5 fun r w'=>r=.returned (.tuple #[])/\DoesN S1 P w5 (editD X ep ev) w' ):=Lib.hid (fun w5 hb5=>by
     have:=edit_any S1 w5 P X adr1 ep va vc ev (HD.out.below hb5) (env_out HE.out (HAt2.out.1.thenBelow hb5) (fun k hk=>by rcases hk with hk|hk;exact HH.out.1 k hk.1;exact hk ▸ HH.out.2)) (HH.out.more HAt2.out.2.1 (env_size HE.out)) (HW.out.below hb5) hw2 bd1 bd2
     rw [hY,hln] at this
     exact this)
    clear hc hee hv hw y0 y1 y2 hw1 hY hln h1 hr1 hvt1 htl1 hat hsu hX d8 hlt
    by_cases hea:ea=(T:Int)
    ·have hq:(ea==(T:Int))=true:=by rw [hea];exact beq_self_eq_true _
     have HT2:Hid (ea=(T:Int)):=Lib.hid hea
     clear hea
     repeat (first|go_skip|go_guarded|go_step|go_upon)
     with_reducible refine wp_region_quiet_below (by kernel_rfl) (by kernel_rfl) ?_
     repeat (go_big_quiet_step (fail))
     refine wpQuiet_nil ?_
     intro _ hw'
     obtain⟨⟨dq,osq⟩,hw''⟩:=hw'
     subst hw''
     have hq5:=below_regrown (wr.alloc (.cells #[.int .i64 ea,.string Y,.slice va ln vc] 86)) dq osq
     have W5:=Lib.hid (Below.trans ((Below.refl wr.heap.size wr).alloc (Nat.le_refl _) (.cells #[.int .i64 ea,.string Y,.slice va ln vc] 86)) (hq5.mono (by simp)))
     have R5:=Lib.hid ((hq5.block wr.heap.size (by simp)).trans RV.out)
     clear z0 z8 hq5
     generalize Go.Sort.grow (redrawn (wr.alloc (.cells #[.int .i64 ea,.string Y,.slice va ln vc] 86)) dq) osq=w5 at W5 R5 ⊢
     obtain⟨q0,q1,q2,-⟩:=row3 R5.out
     repeat (first|(go_at_call 117;fail)|go_skip|go_guarded|go_step|go_upon)
     refine (CE.out w5 W5.out).mono ?_
     rintro r w6 ⟨rfl,hd6⟩
     simp only []
     obtain⟨S2,h2⟩:=(HAt2.out.below W5.out).edit hd6
     have H2:=Lib.hid h2
     clear hd6 h2
     repeat (first|go_skip|go_guarded|go_step|go_upon)
     exact⟨⟨k+1,S2,by go_num,by omega,by rw [HS.out,if_pos HT2.out];exact H2.out⟩,by simp [Go.RowKit.intOf];omega⟩
    ·have hq:(ea==(T:Int))=false:=by simpa using hea
     have HT2:Hid (¬ ea=(T:Int)):=Lib.hid hea
     clear hea
     repeat (first|go_skip|go_guarded|go_step|go_upon)
     with_reducible refine wp_region_quiet_below (by kernel_rfl) (by kernel_rfl) ?_
     repeat (go_big_quiet_step (fail))
     refine wpQuiet_nil ?_
     intro _ hw'
     obtain⟨⟨dq,osq⟩,hw''⟩:=hw'
     subst hw''
     have hq5:=below_regrown (wr.alloc (.cells #[.int .i64 ea,.string Y,.slice va ln vc] 86)) dq osq
     have W5:=Lib.hid (Below.trans ((Below.refl wr.heap.size wr).alloc (Nat.le_refl _) (.cells #[.int .i64 ea,.string Y,.slice va ln vc] 86)) (hq5.mono (by simp)))
     clear z0 z8 hq5
     generalize Go.Sort.grow (redrawn (wr.alloc (.cells #[.int .i64 ea,.string Y,.slice va ln vc] 86)) dq) osq=w5 at W5 ⊢
     repeat (first|go_skip|go_guarded|go_step|go_upon)
     exact⟨⟨k+1,S1,by go_num,by omega,by rw [HS.out,if_neg HT2.out];exact HAt2.out.below W5.out⟩,by simp [Go.RowKit.intOf];omega⟩
   ·have hkz:¬ (k:Int)<n:=by omega
    have hkn:k=n:=by omega
    rw [hkn,← HN.out,List.take_length] at hat
    obtain⟨E,hE⟩:∃ E,editsD D1 T es=E:=⟨_,rfl⟩
    have htl:E.trace.length=T:=by rw [<- hE];exact HEt.out
    have hbg:=HB.out
    have hzs:=HZs.out
    rw [hbg] at hzs
    rw [hE] at hat hzs
    obtain⟨B,hB⟩:∃ B:Dk,{ E with trace:=E.trace++[c] }=B:=⟨_,rfl⟩
    rw [hB] at hzs
    obtain⟨adr1,x1,h1⟩:=hat.2.2
    obtain⟨at1,ct1,hvt1,_⟩:=owns_view h1.rest.trace
    rw [htl] at hvt1
    have hr1:=h1.row
    unfold diskC at hr1
    rw [hvt1] at hr1
    have ho1:=h1.rest.trace
    rw [htl] at ho1
    have HApp:Hid (∃ v' w',(Builtin.append_ #[39,39] 39 #[.slice at1 T ct1,.slice (some ⟨wr.heap.size,0,none⟩) 1 1]).run Tryz.prog (wr.alloc (.cells #[.string Y1,.string Y2,.string Y3] 75))=.ok v' w' /\
      w'.ownsRow 0 75 3 v' (T+1) (didsC E.trace++didC c)/\(wr.alloc (.cells #[.string Y1,.string Y2,.string Y3] 75)).grownBy w' x1.vt.ownBlock/\(v'.ownBlock=x1.vt.ownBlock∨v'.ownBlock=some (wr.alloc (.cells #[.string Y1,.string Y2,.string Y3] 75)).heap.size)):=Lib.hid (by
     obtain⟨v',w',g1,g2,g3,_,g4⟩:=run_append_own_at (P:=Tryz.prog) (wr.alloc (.cells #[.string Y1,.string Y2,.string Y3] 75)) 0 39 39 75 i0 _ 3 48 Tryz.underlying39 hi0 hz0 hz1 hz2 rfl (by decide) _ T _ (ho1.alloc _) ⟨wr.heap.size,0,none⟩ 1 1 (didC c) rfl (did_new wr _ rfl c _ _ _ HY1.out HY2.out HY3.out 75) (did_one c) (by unfold maxLen;omega) (by omega) (Nat.zero_le _)
     rw [hvt1] at g1
     exact⟨v',w',g1,g2,g3,g4⟩)
    have HX1:=Lib.hid h1
    have HAt2:=Lib.hid hat
    have HTl:=Lib.hid htl
    have R1:=Lib.hid hr1
    have HBq:=Lib.hid hB
    have HZ3:=Lib.hid hzs
    have hnpv:x1.vt.ownBlock≠some P:=fun e=>h1.np (h1.rest.tin P e)
    have HNp:=Lib.hid hnpv
    have hlw:P<wr.heap.size:=(Array.getElem?_eq_some_iff.1 hr1).1
    obtain⟨-,-,-,-,-,-,-,-,d8,-⟩:=row9 hr1
    clear hE hbg hzs hB h1 hvt1 hr1 ho1 hat hkn hlt htl hnpv HAt
    repeat (first
     | (at_builtin;obtain⟨v5,w5,hrun,hown5,hgrow5,hblk5⟩:=HApp.out;obtain⟨a5,k5,hv5,hx5⟩:=owns_view hown5;clear hx5;subst hv5;refine wpList_append_eq rfl _ _ _ _ rfl _ _ rfl rfl hrun ?_;have HO5:=Lib.hid hown5;have HG5:=Lib.hid hgrow5;have HK5:=Lib.hid hblk5;have r5:=(hgrow5.block P (by simp;omega) (fun e=>HNp.out e.symm)).trans ((Below.heap_alloc _ _ P hlw).trans R1.out);obtain⟨-,-,-,-,-,-,-,-,f8,ff⟩:=row9 r5;clear hrun hown5 hgrow5 hblk5 r5)
     | (go_at_call 118;fail)|go_skip|go_guarded|go_step|go_upon)
    obtain⟨f,hf⟩:∃ f,fateD B=f:=⟨_,rfl⟩
    obtain⟨fa,fw,fk,ft⟩:=f
    have HD2:=Lib.hid (diskX_trace (HX1.out.below ((Below.refl _ wr).alloc (Nat.le_refl _) (.cells #[.string Y1,.string Y2,.string Y3] 75))) HG5.out (by rw [HTl.out];exact HO5.out) HK5.out)
    rw [HBq.out] at HD2
    have OU:Hid (Out (fun k=>S1 k∨k=P) wr (w5.setCell ⟨P,8,none⟩ (.slice a5 (T+1) k5))):=Lib.hid (((((Out.refl _ wr).alloc (.cells #[.string Y1,.string Y2,.string Y3] 75)).grown HG5.out (fun k hk _=>.inl (HX1.out.rest.tin k hk))).setCell (p:=⟨P,8,none⟩) (fun _=>.inr rfl) _))
    have CF:=fate_any _ _ P B adr1 [] ⟨_,HD2.out⟩
    rw [hf] at CF
    obtain⟨w6,hw6⟩:∃ W,w5.setCell ⟨P,8,none⟩ (.slice a5 (T+1) k5)=W:=⟨_,rfl⟩
    rw [hw6] at CF OU HD2 ⊢
    have HZ4:Hid (Z=if fw=3 then (crashD B fk ft,75) else if fw=1 then (B,70) else (B,0)):=Lib.hid (by rw [HZ3.out,hf])
    have hsz:wr.heap.size<=(wr.alloc (.cells #[.string Y1,.string Y2,.string Y3] 75)).heap.size:=by simp
    have HSz:=Lib.hid hsz
    clear hw6 hf hsz HZ3 HO5 HG5 HK5
    refine CF.mono ?_
    rintro r w7 ⟨rfl,hb7⟩
    simp only [fateV]
    have D7:=Lib.hid (hb7.alloc (by exact hb7.size) (.cells #[.int .i64 fa,.int .i64 fw,.int .i64 fk,.int .i64 ft] 116))
    obtain⟨t0,t1,t2,t3,tf⟩:=row4 (heap_alloc_new w7 (.cells #[.int .i64 fa,.int .i64 fw,.int .i64 fk,.int .i64 ft] 116))
    clear hb7
    by_cases h3:fw=3
    ·subst h3
     have CC:=crash_any _ _ P B adr1 fk ft ⟨_,HD2.out.below D7.out⟩
     have HZ5:Hid (Z=(crashD B fk ft,75)):=Lib.hid (by rw [HZ4.out,if_pos rfl])
     repeat (first|(go_at_call 119;fail)|go_skip|go_guarded|go_step|go_upon)
     refine CC.mono ?_
     rintro r w9 ⟨rfl,⟨S3,hs3,hd3⟩,hu3⟩
     simp only []
     repeat (first|go_skip|go_guarded|go_step|go_upon)
     go_ret
     rw [HZ5.out]
     refine⟨rfl,HAt2.out.does (OU.out.thenBelow D7.out |>.then hu3 (fun j hj hT=>?_)) (fun k hk=>?_) ⟨adr1,hd3⟩⟩
     ·rcases hT with (hT|hT)|hT
      ·exact .inl hT
      ·have:=HSz.out;omega
      ·exact .inr hT
     ·have hz1:=OU.out.size
      have hz2:=D7.out.size
      have hz3:=HSz.out
      rcases hs3 k hk with (h4|h4)|h4|h4
      ·exact .inl h4
      ·exact .inr (by omega)
      ·exact h4.elim
      ·exact .inr (by omega)
    ·have hq3:(fw==3)=false:=by simpa using h3
     have FIN:Hid (Does S P w.heap.size w B (w7.alloc (.cells #[.int .i64 fa,.int .i64 fw,.int .i64 fk,.int .i64 ft] 116))):=Lib.hid (by
      refine HAt2.out.does (OU.out.thenBelow D7.out) (fun k hk=>?_) ⟨adr1,_,HD2.out.below D7.out⟩
      have hz3:=HSz.out
      rcases hk with h4|h4
      ·exact .inl h4
      ·exact .inr (by omega))
     by_cases h1:fw=1
     ·subst h1
      have HZ5:Hid (Z=(B,70)):=Lib.hid (by rw [HZ4.out,if_neg h3,if_pos rfl])
      repeat (first|go_skip|go_guarded|go_step|go_upon)
      go_ret
      rw [HZ5.out]
      exact⟨rfl,FIN.out⟩
     ·have hq1:(fw==1)=false:=by simpa using h1
      have HZ5:Hid (Z=(B,0)):=Lib.hid (by rw [HZ4.out,if_neg h3,if_neg h1])
      clear h3 h1
      repeat (first|go_skip|go_guarded|go_step|go_upon)
      go_ret
      rw [HZ5.out]
      exact⟨rfl,FIN.out⟩
end DG
end Go.Proofs.YtmohjalanhnhbaaGreatDoor
end

section
namespace Go.Proofs.YtmohjalanhnhbaaGreatDoor
open Go.RowKit Go.Lib Go.BigFrame
namespace DG
open OM TP TM DP DM TG TR FP
theorem when_any (b:Bool) (e:Int) (w:World):Calls Tryz.prog 59 #[.bool b,.int .i64 e] w fun r w'=>r=.returned (.int .i64 (whenE b e))/\w=w':=by
 cases b with
 | true =>
  go_enter Tryz.func59,Tryz.ntmps59
  repeat (first|go_skip|go_guarded|go_step|go_upon)
  go_ret
  exact⟨rfl,rfl⟩
 | false =>
  go_enter Tryz.func59,Tryz.ntmps59
  repeat (first|go_skip|go_guarded|go_step|go_upon)
  go_ret
  exact⟨rfl,rfl⟩
theorem first_at:∀ {l:List Int} {k:Nat} {e:Int},(∀ j x,j<k->l[j]?=some x->x=0)->l[k]?=some e->e≠0->firstE l=e
 | [],_,_,_,h,_=>by simp at h
 | x::l,0,e,_,h,h0=>by
  simp at h
  subst h
  unfold firstE
  rw [if_neg h0]
 | x::l,k+1,e,hn,h,h0=>by
  have hx:=hn 0 x (by omega) rfl
  unfold firstE
  rw [if_pos hx]
  exact first_at (fun j y hj hy=>hn (j+1) y (by omega) hy) h h0
theorem first_none:∀ {l:List Int},(∀ j x,j<l.length->l[j]?=some x->x=0)->firstE l=0
 | [],_=>rfl
 | x::l,hn=>by
  have hx:=hn 0 x (by simp) rfl
  unfold firstE
  rw [if_pos hx]
  exact first_none (fun j y hj hy=>hn (j+1) y (by simpa using hj) hy)
def FirstInv (l:List Int) (n:Nat) (w:World) (s7:Value) (wr:World):Prop:=∃ k:Nat,s7=.int .i64 k/\k<=n/\(∀ j x,j<k->l[j]?=some x->x=0)/\w=wr
theorem first_any (l:List Int) (g n:Nat) (w:World) (hn:l.length=n) (hs:n<=1000) (h:∀ j x,l[j]?=some x->w.cell? ⟨g,j,none⟩=some (.int .i64 x)) :
  Calls Tryz.prog 58 #[.slice (some ⟨g,0,none⟩) n n] w fun r w'=>r=.returned (.int .i64 (firstE l))/\w=w':=by
 have HC:=Lib.hid h
 have HN:=Lib.hid hn
 clear h hn
 go_enter Tryz.func58,Tryz.ntmps58
 repeat (first|go_skip|go_guarded|go_step|go_upon)
 go_loopw [7] (fun s7 wr=>FirstInv l n w s7 wr) (fun s7 _=>n-(Go.RowKit.intOf s7).toNat)
 case atStart=>exact⟨0,rfl,Nat.zero_le _,fun j x hj=>by omega,rfl⟩
 case round =>
  obtain⟨k,rfl,hk,hno,rfl⟩:=hrel
  have HNo:=Lib.hid hno
  by_cases hlt:k<n
  ·have hkz:(k:Int)<n:=by omega
   obtain⟨e,he⟩:∃ e,l[k]?=some e:=⟨l[k]'(by rw [HN.out];exact hlt),List.getElem?_eq_getElem _⟩
   have hc:=HC.out k e he
   have HEe:=Lib.hid he
   clear he hno hlt
   by_cases h0:e=0
   ·subst h0
    repeat (first|go_skip|go_guarded|go_step|go_upon)
    refine⟨⟨k+1,by go_num,by omega,fun j x hj hx=>?_,rfl⟩,by simp [Go.RowKit.intOf];omega⟩
    rcases Nat.lt_or_ge j k with h1|h1
    ·exact HNo.out j x h1 hx
    ·obtain rfl:j=k:=by omega
     rw [HEe.out] at hx
     injection hx with hx
     exact hx.symm
   ·have hq:(e != 0)=true:=by simpa using h0
    have HV:Hid (firstE l=e):=Lib.hid (first_at HNo.out HEe.out h0)
    clear h0
    repeat (first|go_skip|go_guarded|go_step|go_upon)
    go_ret
    exact⟨by rw [HV.out];rfl,rfl⟩
  ·have hkz:¬ (k:Int)<n:=by omega
   have HV:Hid (firstE l=0):=Lib.hid (first_none (fun j x hj=>HNo.out j x (by rw [HN.out] at hj;omega)))
   clear hlt hno
   repeat (first|go_skip|go_guarded|go_step|go_upon)
   go_ret
   exact⟨by rw [HV.out];rfl,rfl⟩
theorem lay_one (W:World) (g:Nat) (p d:List UInt8) (k m:Int) (t:TypeId) (h:W.heap[g]?=some (.cells #[txt p,.int .i64 k,txt d,.int .i64 m] t (0,0))):LayN W (some ⟨g,0,none⟩) [⟨p,k,d,m⟩]:=fun _=>by
 obtain⟨c0,c1,c2,c3,_⟩:=row4 h
 refine⟨g,0,rfl,(Array.getElem?_eq_some_iff.1 h).1,fun j n hj=>?_⟩
 match j with
 | 0 =>
  simp at hj
  subst hj
  exact⟨c0,c1,c2,c3⟩
 | j+1=>simp at hj
theorem stand_any (n:Nd) (w:World) (he:NF.Env w):Calls Tryz.prog 61 #[ndVal n] w fun r w'=>r=.returned (.bool (standB n))/\Below w.heap.size w w':=by
 obtain⟨pt,kd,dt,md⟩:=n
 obtain⟨P,hP,_⟩:=txt_of pt
 obtain⟨D,hD,_⟩:=txt_of dt
 have CR:Hid (∀ W g,Below w.heap.size w W->W.heap[g]?=some (.cells #[.string ⟨#[]⟩,.int .i64 kd,.string D,.int .i64 md] 45 (0,0))->Calls Tryz.prog 123 #[.slice (some ⟨g,0,none⟩) 1 1] W fun r w'=>r=.returned (.bool (standB ⟨pt,kd,dt,md⟩))/\Below W.heap.size W w'):=Lib.hid (fun W g hW hg=>by
  rw [<- hD] at hg
  exact TW.rightV_wide (some ⟨g,0,none⟩) 1 [⟨[],kd,dt,md⟩] W (he.below hW) (lay_one W g [] dt kd md _ hg) (fun n hn=>by rw [List.mem_singleton.1 hn];exact Nat.zero_le _) (by unfold maxLen;simp) (Nat.le_refl _))
 have B1:Hid (Below w.heap.size w ((w.alloc (.cells #[.string ⟨#[]⟩,.int .i64 kd,.string D,.int .i64 md] 45)).alloc (.cells #[.string ⟨#[]⟩,.int .i64 kd,.string D,.int .i64 md] 45))):=Lib.hid (((Below.refl _ _).alloc (Nat.le_refl _) _).alloc (by simp) _)
 have R1:Hid (((w.alloc (.cells #[.string ⟨#[]⟩,.int .i64 kd,.string D,.int .i64 md] 45)).alloc (.cells #[.string ⟨#[]⟩,.int .i64 kd,.string D,.int .i64 md] 45)).heap[w.heap.size+1]?=some (.cells #[.string ⟨#[]⟩,.int .i64 kd,.string D,.int .i64 md] 45 (0,0))):=Lib.hid (by
  have:=heap_alloc_new (w.alloc (.cells #[.string ⟨#[]⟩,.int .i64 kd,.string D,.int .i64 md] 45)) (.cells #[.string ⟨#[]⟩,.int .i64 kd,.string D,.int .i64 md] 45)
  simpa using this)
 unfold ndVal
 simp only
 rw [hP,hD]
 clear hP hD he
 go_enter Tryz.func61,Tryz.ntmps61
 repeat (first|(go_at_call 123;fail)|go_skip|go_guarded|go_step|go_upon)
 refine (CR.out _ _ B1.out R1.out).mono ?_
 rintro r w2 ⟨rfl,hb⟩
 simp only []
 have B2:=Lib.hid (Below.trans B1.out (hb.mono B1.out.size))
 clear hb
 repeat (first|go_skip|go_guarded|go_step|go_upon)
 go_ret
 exact⟨rfl,B2.out⟩
theorem kind_of {S:Nat->Prop} {w:World} {P:Nat} {D:Dk} {adr:Int->Nat} {pend:List Nd} {x:Parts} (h:DiskX S w P D adr pend x) (p:List UInt8) (hp:p.length<=maxLen) :
  Calls Tryz.prog 57 #[x.vn,txt p] w fun r w'=>r=.returned (.int .i64 (kindD D p))/\Below w.heap.size w w':=by
 obtain⟨ao,cap,hvn,hlay,_⟩:=layE_own h.rest.names
 rw [hvn]
 exact kind_any adr ao cap D.names D.inos p w hlay (h.rest.inos.sub (fun e he=>by unfold liveL;exact List.mem_append_right _ (List.mem_append_left _ he))) h.fit.names (row_small h.fit.names) hp
theorem up_any (S:Nat->Prop) (w:World) (P:Nat) (D:Dk) (adr:Int->Nat) (pend:List Nd) (p:List UInt8) (h:DiskA S w P D adr pend) (he:NF.Env w) (hp:p.length<=maxLen) :
  Calls Tryz.prog 62 #[.pointer (some ⟨P,0,none⟩),txt p] w fun r w'=>r=.returned (.bool (upB D p))/\Below w.heap.size w w':=by
 obtain⟨x,h⟩:=h
 obtain⟨X,hX,hXd⟩:=txt_of p
 obtain⟨Y,hY,hYd⟩:=txt_of (NP.parentL p)
 have hpl:(NP.parentL p).length<=maxLen:=Nat.le_trans (parent_len p) hp
 obtain⟨k,hk⟩:∃ k,kindD D (NP.parentL p)=k:=⟨_,rfl⟩
 obtain⟨ao,cap,hvn,_⟩:=layE_own h.rest.names
 obtain⟨n,hn⟩:∃ n,D.names.length=n:=⟨_,rfl⟩
 rw [hn] at hvn
 have D1:=Lib.hid (reg_g (w:=w) (f:=124) (args:=#[.string X]) (v:=.string Y) (fun W hW=>by
  subst hXd
  refine (NC.parent_any X W (he.below hW) (by rw [Lib.size_eq];exact hp)).mono ?_
  rintro e w' ⟨t,rfl,ht,hb⟩
  exact⟨by rw [<- hY,← ht,txt_data],hb⟩))
 have D2:=Lib.hid (reg_g (w:=w) (f:=57) (args:=#[.slice ao n cap,.string Y]) (v:=.int .i64 k) (fun W hW=>by
  have:=kind_of (h.below hW) (NP.parentL p) hpl
  rw [hvn,hY,hk] at this
  exact this))
 have hr:=h.row
 unfold diskC at hr
 rw [hvn] at hr
 obtain⟨c0,-,-,-,-,-,-,-,-,-⟩:=row9 hr
 have f0:=cell_regrown c0
 have HU:Hid (upB D p=decide (k=2)):=Lib.hid (by rw [<- hk];rfl)
 rw [hX]
 clear h he hX hXd hY hYd hk hvn hn hr c0
 by_cases h2:k=2
 ·have hq:(k==2)=true:=by simpa using h2
  have HB:Hid (upB D p=true):=Lib.hid (by rw [HU.out];simpa using h2)
  clear h2
  go_enter Tryz.func62,Tryz.ntmps62
  repeat (first|go_skip|go_guarded|go_step|go_upon)
  with_reducible refine wp_region_quiet_below (by kernel_rfl) (by kernel_rfl) ?_
  repeat (go_big_quiet_step (first|(go_at_call 124;exact D1.out _ _)|(go_at_call 57;exact D2.out _ _)))
  refine wpQuiet_nil ?_
  intro _ hw'
  obtain⟨⟨dq,osq⟩,hw''⟩:=hw'
  subst hw''
  have W5:=Lib.hid (below_regrown w dq osq)
  clear f0
  generalize Go.Sort.grow (redrawn w dq) osq=w5 at W5 ⊢
  repeat (first|go_skip|go_guarded|go_step|go_upon)
  go_ret
  exact⟨by rw [HB.out];rfl,W5.out⟩
 ·have hq:(k==2)=false:=by simpa using h2
  have HB:Hid (upB D p=false):=Lib.hid (by rw [HU.out];simpa using h2)
  clear h2
  go_enter Tryz.func62,Tryz.ntmps62
  repeat (first|go_skip|go_guarded|go_step|go_upon)
  with_reducible refine wp_region_quiet_below (by kernel_rfl) (by kernel_rfl) ?_
  repeat (go_big_quiet_step (first|(go_at_call 124;exact D1.out _ _)|(go_at_call 57;exact D2.out _ _)))
  refine wpQuiet_nil ?_
  intro _ hw'
  obtain⟨⟨dq,osq⟩,hw''⟩:=hw'
  subst hw''
  have W5:=Lib.hid (below_regrown w dq osq)
  clear f0
  generalize Go.Sort.grow (redrawn w dq) osq=w5 at W5 ⊢
  repeat (first|go_skip|go_guarded|go_step|go_upon)
  go_ret
  exact⟨by rw [HB.out];rfl,W5.out⟩
theorem room_any (S:Nat->Prop) (w:World) (P:Nat) (D:Dk) (adr:Int->Nat) (pend:List Nd) (p:List UInt8) (h:DiskA S w P D adr pend) (hp:p.length<=maxLen) :
  Calls Tryz.prog 63 #[.pointer (some ⟨P,0,none⟩),txt p] w fun r w'=>r=.returned (.bool (roomB D p))/\Below w.heap.size w w':=by
 have hA:=h
 obtain⟨x,h⟩:=h
 obtain⟨X,hX,_⟩:=txt_of p
 obtain⟨k,hk⟩:∃ k,kindD D p=k:=⟨_,rfl⟩
 obtain⟨⟨fa,fw,fk,ft⟩,hf⟩:∃ f,fateD D=f:=⟨_,rfl⟩
 obtain⟨ao,cap,hvn,_⟩:=layE_own h.rest.names
 obtain⟨n,hn⟩:∃ n,D.names.length=n:=⟨_,rfl⟩
 rw [hn] at hvn
 have hn1:n<=1000:=by have:=h.fit.names.len;omega
 have CK:Hid (∀ W,Below w.heap.size w W->Calls Tryz.prog 57 #[.slice ao n cap,.string X] W fun r w'=>r=.returned (.int .i64 k)/\Below W.heap.size W w'):=Lib.hid (fun W hW=>by
  have:=kind_of (h.below hW) p hp
  rw [hvn,hX,hk] at this
  exact this)
 have CF:Hid (∀ W,Below w.heap.size w W->Calls Tryz.prog 118 #[.pointer (some ⟨P,0,none⟩)] W fun r w'=>r=.returned (.agg #[.int .i64 fa,.int .i64 fw,.int .i64 fk,.int .i64 ft])/\Below W.heap.size W w'):=Lib.hid (fun W hW=>by
  have:=fate_any S W P D adr pend (hA.below hW)
  rw [hf] at this
  exact this)
 have HU:Hid (roomB D p=(decide (fw≠2)&&!(decide (k=0)&&decide (1000<=n)))):=Lib.hid (by
  unfold roomB
  rw [hf,hk,hn])
 have hr:=h.row
 unfold diskC at hr
 rw [hvn] at hr
 obtain⟨c0,-,-,-,-,-,-,-,-,-⟩:=row9 hr
 have hpl:=(Array.getElem?_eq_some_iff.1 hr).1
 have HR:=Lib.hid hr
 rw [hX]
 clear h hA hX hk hf hvn hn hr hp
 obtain⟨b2,hb2⟩:∃ b,(fw != 2)=b:=⟨_,rfl⟩
 obtain⟨b0,hb0⟩:∃ b,(k==0)=b:=⟨_,rfl⟩
 have HV:Hid (roomB D p=(b2&&!(b0&&decide (1000<=n)))):=Lib.hid (by
  rw [HU.out,← hb2,← hb0]
  by_cases h1:fw=2<;>by_cases h3:k=0<;>simp [h1,h3])
 have B0:=Lib.hid (Below.refl w.heap.size w)
 have hfd:∀ w:World,(Instr.field 116 (.agg #[.int .i64 fa,.int .i64 fw,.int .i64 fk,.int .i64 ft]) 1).run Tryz.prog w=.ok (.int .i64 fw) w:=fun _=>by kernel_rfl
 cases b0<;>cases b2<;>rcases Nat.lt_or_ge n 1000 with h5|h5
 all_goals
  have h6:=h5
  first
   | (have hg:¬ (1000:Int)<=n:=by omega)
   | (have hg:(1000:Int)<=n:=by omega)
  go_enter Tryz.func63,Tryz.ntmps63
  repeat (first
   | (go_at_call 57;refine (CK.out w B0.out).mono ?_;rintro r w1 ⟨rfl,hb⟩;simp only [];have B1:=Lib.hid hb;have c1:=(hb.cell (p:=⟨P,0,none⟩) hpl).trans c0;clear hb)
   | (go_at_call 118;refine (CF.out _ B1.out).mono ?_;rintro r w2 ⟨rfl,hb⟩;simp only [];have B2:=Lib.hid (Below.trans B1.out (hb.mono B1.out.size));clear hb)
   | go_skip|go_guarded|go_step|go_upon)
  go_ret
  refine⟨?_,B2.out⟩
  rw [HV.out]
  simp [h6]
end DG
end Go.Proofs.YtmohjalanhnhbaaGreatDoor
end

section
namespace Go.Proofs.YtmohjalanhnhbaaGreatDoor
open Go.RowKit Go.Lib Go.BigFrame
namespace DG
open OM TP TM DP DM TG TR FP
theorem when_g (w:World) (b:Bool) (e:Int) (d:Nat) (os:Array Obj) :
  Calls Tryz.prog 59 #[.bool b,.int .i64 e] (Go.Sort.grow (redrawn w d) os) fun r w''=>r=.returned (.int .i64 (whenE b e))/\∃ p:Regrown,w''=Go.Sort.grow (redrawn w p.d) p.os :=
 reg_g (w:=w) (fun W _=>(when_any b e W).mono (fun r w' ⟨h1,h2⟩=>⟨h1,h2 ▸ Below.refl _ _⟩)) d os
theorem first2 (a b:Int) (W:World) (g:Nat) (t:TypeId) (h:W.heap[g]?=some (.cells #[.int .i64 a,.int .i64 b] t (0,0))) :
  Calls Tryz.prog 58 #[.slice (some ⟨g,0,none⟩) 2 2] W fun r w'=>r=.returned (.int .i64 (firstE [a,b]))/\W=w':=by
 obtain⟨c0,c1,_⟩:=row2 h
 refine first_any [a,b] g 2 W rfl (by omega) (fun j x hj=>?_)
 match j with
 | 0=>simp at hj;subst hj;exact c0
 | 1=>simp at hj;subst hj;exact c1
 | j+2=>simp at hj
theorem first3 (a b c:Int) (W:World) (g:Nat) (t:TypeId) (h:W.heap[g]?=some (.cells #[.int .i64 a,.int .i64 b,.int .i64 c] t (0,0))) :
  Calls Tryz.prog 58 #[.slice (some ⟨g,0,none⟩) 3 3] W fun r w'=>r=.returned (.int .i64 (firstE [a,b,c]))/\W=w':=by
 obtain⟨c0,c1,c2,_⟩:=row3 h
 refine first_any [a,b,c] g 3 W rfl (by omega) (fun j x hj=>?_)
 match j with
 | 0=>simp at hj;subst hj;exact c0
 | 1=>simp at hj;subst hj;exact c1
 | 2=>simp at hj;subst hj;exact c2
 | j+3=>simp at hj
theorem row5 {W:World} {b:Nat} {a0 a1 a2 a3 a4:Value} {t:TypeId} (h:W.heap[b]?=some (.cells #[a0,a1,a2,a3,a4] t (0,0))) :
  W.cell? ⟨b,0,none⟩=some a0/\W.cell? ⟨b,1,none⟩=some a1/\W.cell? ⟨b,2,none⟩=some a2/\W.cell? ⟨b,3,none⟩=some a3/\W.cell? ⟨b,4,none⟩=some a4 :=
 ⟨by rw [cell_of_row W b 0 _ _ _ h];rfl,by rw [cell_of_row W b 1 _ _ _ h];rfl,by rw [cell_of_row W b 2 _ _ _ h];rfl,by rw [cell_of_row W b 3 _ _ _ h];rfl,by rw [cell_of_row W b 4 _ _ _ h];rfl⟩
theorem first5 (a b c d e:Int) (W:World) (g:Nat) (t:TypeId) (h:W.heap[g]?=some (.cells #[.int .i64 a,.int .i64 b,.int .i64 c,.int .i64 d,.int .i64 e] t (0,0))) :
  Calls Tryz.prog 58 #[.slice (some ⟨g,0,none⟩) 5 5] W fun r w'=>r=.returned (.int .i64 (firstE [a,b,c,d,e]))/\W=w':=by
 obtain⟨c0,c1,c2,c3,c4⟩:=row5 h
 refine first_any [a,b,c,d,e] g 5 W rfl (by omega) (fun j x hj=>?_)
 match j with
 | 0=>simp at hj;subst hj;exact c0
 | 1=>simp at hj;subst hj;exact c1
 | 2=>simp at hj;subst hj;exact c2
 | 3=>simp at hj;subst hj;exact c3
 | 4=>simp at hj;subst hj;exact c4
 | j+5=>simp at hj
theorem path_txt (S:ByteArray) (p:List UInt8) (W:World) (he:NF.Env W) (hS:S.data.toList=p) (hp:p.length<=maxLen) :
  Calls Tryz.prog 60 #[.string S] W fun e w'=>e=.returned (.bool (NP.pathL p))/\Below W.heap.size W w':=by
 subst hS
 exact NF.path_any S W he (by rw [Lib.size_eq];exact hp)
theorem missing_any (S:Nat->Prop) (w:World) (P:Nat) (D:Dk) (adr:Int->Nat) (pend:List Nd) (p:List UInt8) (h:DiskA S w P D adr pend) (he:NF.Env w) (hp:p.length<=maxLen) :
  Calls Tryz.prog 129 #[.pointer (some ⟨P,0,none⟩),txt p] w fun r w'=>r=.returned (.int .i64 (missE D p))/\Below w.heap.size w w':=by
 obtain⟨x,h⟩:=h
 obtain⟨X,hX,hXd⟩:=txt_of p
 obtain⟨k,hk⟩:∃ k,kindD D p=k:=⟨_,rfl⟩
 obtain⟨b,hb⟩:∃ b,NP.pathL p=b:=⟨_,rfl⟩
 obtain⟨ao,cap,hvn,_⟩:=layE_own h.rest.names
 obtain⟨n,hn⟩:∃ n,D.names.length=n:=⟨_,rfl⟩
 rw [hn] at hvn
 have D1:=Lib.hid (reg_g (w:=w) (f:=60) (args:=#[.string X]) (v:=.bool b) (fun W hW=>by
  have:=path_txt X p W (he.below hW) hXd hp
  rw [hb] at this
  exact this))
 have D2:=Lib.hid (reg_g (w:=w) (f:=57) (args:=#[.slice ao n cap,.string X]) (v:=.int .i64 k) (fun W hW=>by
  have:=kind_of (h.below hW) p hp
  rw [hvn,hX,hk] at this
  exact this))
 have D3:=Lib.hid (fun b e=>when_g w b e)
 have hr:=h.row
 unfold diskC at hr
 rw [hvn] at hr
 obtain⟨c0,-,-,-,-,-,-,-,-,-⟩:=row9 hr
 have f0:=cell_regrown c0
 have HU:Hid (missE D p=firstE [whenE (!decide (p=[])&&!b) 11,whenE (decide (k=0)) 74]):=Lib.hid (by
  unfold missE
  rw [hb,hk])
 obtain⟨z,hz⟩:∃ z,X.toList.isEmpty=z:=⟨_,rfl⟩
 have HZ:Hid (decide (p=[])=z):=Lib.hid (by rw [<- hz,Lib.toList_data,hXd];cases p<;>simp)
 obtain⟨q,hq⟩:∃ q,(k==0)=q:=⟨_,rfl⟩
 have HQ:Hid (decide (k=0)=q):=Lib.hid (by rw [<- hq];by_cases h:k=0<;>simp [h])
 rw [hX]
 clear h he hX hXd hb hk hvn hn hr c0
 cases z
 all_goals
  go_enter Tryz.func129,Tryz.ntmps129
  repeat (first|go_skip|go_guarded|go_step|go_upon)
  with_reducible refine QT.region_tail 16 (by kernel_rfl) (by kernel_rfl) ?_
  simp only [List.take_succ_cons,List.take_zero,List.drop_succ_cons,List.drop_zero]
  repeat (go_big_quiet_step (first|(go_at_call 60;exact D1.out _ _)|(go_at_call 57;exact D2.out _ _)|(go_at_call 59;exact D3.out _ _ _ _)))
  refine wpQuiet_nil ?_
  intro _ hw'
  obtain⟨⟨dq,osq⟩,hw''⟩:=hw'
  subst hw''
  have W5:=Lib.hid (below_regrown w dq osq)
  clear f0
  generalize Go.Sort.grow (redrawn w dq) osq=w5 at W5 ⊢
  repeat (first
   | (go_at_call 58;refine (first2 _ _ _ _ _ (heap_alloc_new w5 _)).mono ?_;rintro r w6 ⟨rfl,rfl⟩;simp only [])
   | go_skip|go_guarded|go_step|go_upon)
  go_ret
  refine⟨?_,W5.out.alloc W5.out.size _⟩
  rw [HU.out,HZ.out,HQ.out]
  rfl
end DG
end Go.Proofs.YtmohjalanhnhbaaGreatDoor
end

section
namespace Go.Proofs.YtmohjalanhnhbaaGreatDoor
open Go.RowKit Go.Lib Go.BigFrame
namespace DG
open OM TP TM DP DM TG TR FP
theorem live_row {D:Dk} (h:Fit D) {e:Nd} (he:e∈liveL D):∃ k:Nat,e.kind=k/\1<=k/\k<=D.inos.length:=by
 have use:∀ {l:List Nd},Row D.inos.length l->e∈l->∃ k:Nat,e.kind=k/\1<=k/\k<=D.inos.length:=fun hr hm=>by
  obtain⟨k,h1,h2,h3⟩:=hr.ino e hm
  exact⟨k,by rw [h1];rfl,h2,h3⟩
 unfold liveL at he
 rcases List.mem_append.1 he with he|he
 ·exact use h.names he
 ·rcases List.mem_append.1 he with he|he
  ·exact use h.safe he
  ·obtain⟨l,h1,h2⟩:=List.mem_flatten.1 he
   exact use (h.later l h1) h2
theorem ino_set_same {I:List Ino} {k:Nat} (i:Ino) (h1:1<=k) (h2:k<=I.length):inoOf (I.set ((k:Int).toNat-1) i) k=i:=by
 unfold inoOf
 rw [List.getD_eq_getElem?_getD,List.getElem?_set_self (by omega)]
 rfl
theorem ino_set_other {I:List Ino} {k j:Nat} (i:Ino) (h1:1<=k) (h2:1<=j) (h:j≠k):inoOf (I.set ((k:Int).toNat-1) i) j=inoOf I j:=by
 unfold inoOf
 rw [List.getD_eq_getElem?_getD,List.getD_eq_getElem?_getD,List.getElem?_set_ne (by omega)]
theorem setI_some {D:Dk} {p:List UInt8} {e:Nd} (f:Ino->Ino) (h:findN D.names p=some e):setI D p f={ D with inos:=D.inos.set (e.kind.toNat-1) (f (inoOf D.inos e.kind)) }:=by
 unfold setI
 rw [h]
theorem diskX_ino {S:Nat->Prop} {w w':World} {P:Nat} {D:Dk} {adr:Int->Nat} {x:Parts} {p:List UInt8} {e:Nd} {f:Ino->Ino} (h:DiskX S w P D adr [] x) (he:findN D.names p=some e) (ht:Turn (adr e.kind) w w')
  (hi:InoAt w' (adr e.kind) e.kind (f (inoOf D.inos e.kind))) (hd:(f (inoOf D.inos e.kind)).data.length<=65536):DiskX S w' P (setI D p f) adr [] x:=by
 rw [setI_some f he]
 have hm:=(find_mem he).1
 have hlive:e∈liveL D:=by unfold liveL;exact List.mem_append_left _ hm
 obtain⟨k,hk,hk1,hk2⟩:=live_row h.fit hlive
 have hk0:e.kind≠0:=by omega
 have hS:S (adr e.kind):=h.rest.iin e (List.mem_append_right _ hlive) hk0
 have hT:IsT w (adr e.kind) 173:=ino_type (h.rest.inos e (List.mem_append_right _ hlive) hk0)
 have hpl:=(Array.getElem?_eq_some_iff.1 h.row).1
 have hs:=ht.size
 have hr:=h.rest
 have typ:∀ g t,IsT w g t->S g->t≠173->w'.heap[g]?=w.heap[g]?:=fun g t hg hS hne =>
  ht.block g (h.lt g hS) (fun e=>hg.ne hT hne e)
 have rows:∀ (t:TypeId) {n size:Nat} {u:Value} {xs:List Value},w.ownsRow 0 t size u n xs->(∀ g,u.ownBlock=some g->S g)->t≠173->w'.ownsRow 0 t size u n xs:=fun t {n size u xs} ho2 hi h1 =>
  own_same ho2 fun g hg2=>typ g t (own_type ho2 g hg2) (hi g hg2) h1
 have hlen:(D.inos.set (e.kind.toNat-1) (f (inoOf D.inos e.kind))).length=D.inos.length:=List.length_set ..
 refine⟨?_,?_,fun g hg=>Nat.lt_of_lt_of_le (h.lt g hg) hs,h.np,?_⟩
 ·have:=(ht.block P hpl (fun e=>h.np (e ▸ hS))).trans h.row
  rw [this]
  unfold diskC
  simp only
  rw [hlen]
 ·exact {
   names:=rows _ hr.names hr.nin (by decide)
   nin:=hr.nin
   safe:=rows _ hr.safe hr.sin (by decide)
   sin:=hr.sin
   apart:=hr.apart
   ch:=rows _ hr.ch hr.chin (by decide)
   chin:=hr.chin
   each:=fun c hc=>by
    obtain⟨h1,h2,h3⟩:=hr.each c hc
    exact⟨h1.same hs (fun a ha _=>typ _ _ (h3 a ha).2.1 (h3 a ha).1 (by decide)),h2,fun a ha=>⟨(h3 a ha).1,(h3 a ha).2.1.same (typ _ _ (h3 a ha).2.1 (h3 a ha).1 (by decide)),(h3 a ha).2.2⟩⟩
   crow:=fun c hc=>by
    show CRow (D.inos.set _ _).length _
    rw [hlen]
    exact hr.crow c hc
   later:=hr.later
   ends:=hr.ends
   lens:=hr.lens
   inos:=fun c hc h0=>by
    have hc2:c∈liveL D:=by
     rcases List.mem_append.1 hc with h1|h1
     ·cases h1
     ·exact h1
    obtain⟨j,hj,hj1,hj2⟩:=live_row h.fit hc2
    by_cases hjk:j=k
    ·have hck:c.kind=e.kind:=by omega
     rw [hck]
     show InoAt w' _ _ (inoOf (D.inos.set _ _) e.kind)
     have:=ino_set_same (I:=D.inos) (f (inoOf D.inos e.kind)) hk1 hk2
     rw [<- hk] at this
     rw [this]
     exact hi
    ·have hne:adr c.kind≠adr e.kind:=fun ee=>by
      have:=hr.inj c hc e (List.mem_append_right _ hlive) h0 hk0 ee
      omega
     show InoAt w' _ _ (inoOf (D.inos.set _ _) c.kind)
     have:=ino_set_other (I:=D.inos) (f (inoOf D.inos e.kind)) hk1 hj1 hjk
     rw [<- hk,← hj] at this
     rw [this]
     have h2:=hr.inos c hc h0
     exact (ht.block _ (Array.getElem?_eq_some_iff.1 h2).1 hne).trans h2
   iin:=hr.iin
   inj:=hr.inj
   fates:=rows _ hr.fates hr.fin (by decide)
   fin:=hr.fin
   edits:=rows _ hr.edits hr.ein (by decide)
   ein:=hr.ein
   elen:=hr.elen
   vals:=fun j e u he hu=>by
    obtain⟨h1,h2⟩:=hr.vals j e u he hu
    refine⟨rows _ h1 (fun g hg=>?_) (by decide),h2⟩
    cases ha:u.a with
    | none=>rw [ha] at hg;cases hg
    | some a =>
     rw [ha] at hg
     injection hg with hg
     rw [<- hg]
     exact h2 a ha
   trace:=rows _ hr.trace hr.tin (by decide)
   tin:=hr.tin }
 ·have hf:=h.fit
  refine⟨?_,?_,fun l hl=>?_,fun i hi2=>?_⟩
  ·show Row (D.inos.set _ _).length _
   rw [hlen];exact hf.names
  ·show Row (D.inos.set _ _).length _
   rw [hlen];exact hf.safe
  ·show Row (D.inos.set _ _).length _
   rw [hlen];exact hf.later l hl
  ·rcases List.mem_or_eq_of_mem_set hi2 with h1|rfl
   ·exact hf.data i h1
   ·exact hd
theorem write_any (g:Nat) (k:Int) (i:Ino) (dt:List UInt8) (md tm:Int) (w:World) (h:InoAt w g k i) :
  Calls Tryz.prog 66 #[.pointer (some ⟨g,0,none⟩),txt dt,.int .i64 md,.int .i64 tm] w fun r w'=>r=.returned (.tuple #[])/\InoAt w' g k ⟨tm,i.kind,md,dt,true⟩/\Turn g w w':=by
 obtain⟨t0,kd,m0,d0,dy⟩:=i
 obtain⟨D,hD,_⟩:=txt_of dt
 obtain⟨D0,hD0,_⟩:=txt_of d0
 unfold InoAt inoC at h
 simp only at h
 rw [hD0] at h
 have HR:=Lib.hid h
 have HD:=Lib.hid hD
 obtain⟨-,c1,-,c3,c4,c5,cf⟩:=row6 h
 rw [hD]
 clear h hD hD0
 go_enter Tryz.func66,Tryz.ntmps66
 repeat (first|go_skip|go_guarded|go_step|go_upon)
 go_end0
 refine⟨rfl,?_,((((Out.refl (fun k=>k=g) w).setCell (p:=⟨g,4,none⟩) (fun _=>rfl) _).setCell (p:=⟨g,3,none⟩) (fun _=>rfl) _).setCell (p:=⟨g,1,none⟩) (fun _=>rfl) _).setCell (p:=⟨g,5,none⟩) (fun _=>rfl) _⟩
 unfold InoAt inoC
 simp only
 rw [HD.out]
 exact row_set (j:=5) (row_set (j:=1) (row_set (j:=3) (row_set (j:=4) HR.out _) _) _) _
end DG
end Go.Proofs.YtmohjalanhnhbaaGreatDoor
end

section
namespace Go.Proofs.YtmohjalanhnhbaaGreatDoor
open Go.RowKit Go.Lib Go.BigFrame
namespace DG
open OM TP TM DP DM TG TR FP
theorem first_cons {a:Int} {l:List Int} (h:firstE (a::l)=0):a=0/\firstE l=0:=by
 unfold firstE at h
 by_cases h0:a=0
 ·rw [if_pos h0] at h
  exact⟨h0,h⟩
 ·rw [if_neg h0] at h
  exact absurd h h0
theorem when_zero {b:Bool} {e:Int} (h:whenE b e=0) (he:e≠0):b=false:=by
 cases b with
 | true=>exact absurd h he
 | false=>rfl
theorem does_then {S S1 S2:Nat->Prop} {P:Nat} {w w1 w2:World} {X:Dk} (h1:Out (fun k=>S k∨k=P) w w1) (hs:∀ k,S1 k->S k∨w.heap.size<=k) (ho:Out (fun k=>S1 k∨k=P) w1 w2)
  (hs2:∀ k,S2 k->S1 k∨w1.heap.size<=k) (hd:Disk S2 w2 P X):Does S P w.heap.size w X w2:=by
 have hz:=h1.size
 refine⟨h1.then ho (fun j hj hT=>?_),S2,fun k hk=>?_,hd⟩
 ·rcases hT with hT|hT
  ·rcases hs j hT with h3|h3
   ·exact .inl h3
   ·omega
  ·exact .inr hT
 ·rcases hs2 k hk with h3|h3
  ·exact hs k h3
  ·exact .inr (by omega)
theorem does_below {S S1:Nat->Prop} {P:Nat} {w w1 w2:World} {X:Dk} (h1:Out (fun k=>S k∨k=P) w w1) (hs:∀ k,S1 k->S k∨w.heap.size<=k) (hd:Disk S1 w1 P X) (hb:Below w1.heap.size w1 w2):Does S P w.heap.size w X w2:=by
 obtain⟨adr,hd⟩:=hd
 exact does_then h1 hs ((Out.refl _ w1).thenBelow hb) (fun k hk=>.inl hk) ⟨adr,hd.below hb⟩
theorem env_does {S:Nat->Prop} {P:Nat} {w w1:World} (he:NF.Env w) (h1:Out (fun k=>S k∨k=P) w w1) (hH:Hi S P):NF.Env w1:=env_out he h1 hH.out
theorem chg_fresh {S1:Nat->Prop} {W:World} {P:Nat} {E:Dk} {adr:Int->Nat} {n:Nd} {g:Nat} {a b:Value} (h:DiskA S1 W P (freshD E n) adr ([]++[freshE E n])) (hf:Row E.inos.length E.names) (hp:NP.pathL n.path=true) (hl:E.names.length<1000)
  (hg:g=W.heap.size) (ha:txt n.path=a) (hb:ptrV adr (freshE E n).kind=b) :
  ChgIn S1 (W.alloc (.cells #[a,b] 125)) (freshD E n) adr ([]++[freshE E n]) (some ⟨g,0,none⟩) [freshE E n]:=by
 subst hg ha hb
 have hn:=heap_alloc_new W (.cells #[txt n.path,ptrV adr (freshE E n).kind] 125)
 obtain⟨c0,c1,_⟩:=row2 hn
 refine⟨fun _=>⟨W.heap.size,0,rfl,by simp,fun k e hk=>?_⟩,⟨fun e he=>?_,fun e he=>?_⟩,fun a ha=>?_,fun k=>?_,by simp,fun e he _=>⟨e,List.mem_append_left _ (by simpa using he),rfl⟩⟩
 ·match k with
  | 0 =>
   simp at hk
   subst hk
   exact⟨c0,c1⟩
  | k+1=>simp at hk
 ·rw [List.mem_singleton.1 he]
  exact hp
 ·rw [List.mem_singleton.1 he]
  refine⟨E.inos.length+1,rfl,?_⟩
  show _<=(E.inos++[_]).length
  simp
 ·injection ha with ha
  subst ha
  refine⟨⟨_,_,hn⟩,fun hS=>?_⟩
  have:=diskA_lt h _ hS
  simp at this
 ·have h1:=with_len (freshD E n).names ([freshE E n].take k)
  have h2:([freshE E n].take k).length<=1:=by rw [List.length_take];simp;omega
  have h3:(freshD E n).names=E.names:=rfl
  rw [h3] at h1 ⊢
  omega
theorem find_laid {E:Dk} {n:Nd} (hr:Row (E.inos.length+1) (changeD (freshD E n) [freshE E n]).names):findN (changeD (freshD E n) [freshE E n]).names n.path=some (freshE E n):=by
 have hm:freshE E n∈(changeD (freshD E n) [freshE E n]).names:=by
  show freshE E n∈putE E.names (freshE E n)
  rw [mem_put]
  refine .inr ⟨?_,rfl⟩
  show ((E.inos.length+1:Nat):Int)≠0
  omega
 exact find_of hr.sorted hm
theorem kindD_ino {D:Dk} {p:List UInt8} (hp:p≠[]) (hf:Fit D) (hk:kindD D p≠0):∃ e,findN D.names p=some e/\e∈D.names/\e.kind≠0/\inoN D.names p=e.kind/\kindD D p=(inoOf D.inos e.kind).kind:=by
 rcases kind_ino (I:=D.inos) hp hf.names with ⟨h1,h2⟩|⟨e,he,hep,hfd,h1,h3,h2⟩
 ·exact absurd h2 hk
 ·exact⟨e,hfd,he,h3,h1,h2⟩
theorem at_of {S:Nat->Prop} {w:World} {P:Nat} {D:Dk} {adr:Int->Nat} {pend:List Nd} {x:Parts} (h:DiskX S w P D adr pend x) (p:List UInt8) (hp:p.length<=maxLen) :
  Calls Tryz.prog 65 #[x.vn,txt p] w (AtPost adr D.names p w):=by
 obtain⟨ao,cap,hvn,hlay,_⟩:=layE_own h.rest.names
 rw [hvn]
 exact at_any adr ao cap D.names p w hlay h.fit.names.sorted (row_small h.fit.names) h.fit.names.len hp
theorem at_there {S:Nat->Prop} {w:World} {P:Nat} {D:Dk} {adr:Int->Nat} {pend:List Nd} {x:Parts} (h:DiskX S w P D adr pend x) (p:List UInt8) (hp:p.length<=maxLen) (hp0:p≠[]) {e:Nd} (he:findN D.names p=some e) (h0:e.kind≠0) :
  Calls Tryz.prog 65 #[x.vn,txt p] w fun r w'=>r=.returned (.pointer (some ⟨adr e.kind,0,none⟩))/\Below w.heap.size w w':=by
 refine (at_of h p hp).mono ?_
 rintro r w' ⟨h1,hb⟩
 rw [if_neg hp0] at h1
 have h2:inoN D.names p=e.kind:=by unfold inoN;rw [he]
 rw [h2,ptr_pos adr h0] at h1
 exact⟨h1,hb⟩
theorem stand_data {n:Nd} (h:standB n=true):n.data.length<=65536:=by
 have hv:=(val_iff _).1 h
 exact right_data (hv.right { n with path:=[] } (List.mem_singleton.2 rfl))
end DG
end Go.Proofs.YtmohjalanhnhbaaGreatDoor
end

section
namespace Go.Proofs.YtmohjalanhnhbaaGreatDoor
open Go.RowKit Go.Lib Go.BigFrame
namespace DG
open OM TP TM DP DM TG TR FP
theorem after_no {r:Dk×Int} {f:Dk->Dk×Int} (h:r.2≠0):after r f=r:=by unfold after;rw [if_neg h]
theorem after_yes {r:Dk×Int} {f:Dk->Dk×Int} (h:r.2=0):after r f=f r.1:=by unfold after;rw [if_pos h]
theorem dwrite_any (S:Nat->Prop) (w:World) (P m:Nat) (D:Dk) (p dt:List UInt8) (md:Int) (h:Disk S w P D) (he:NF.Env w) (hH:Hi S P) (hm:Num m D) (hm2:m<=100000) (hp:p.length<=maxLen) :
  Calls Tryz.prog 12 #[.pointer (some ⟨P,0,none⟩),txt p,txt dt,.int .i64 md] w fun r w'=>r=.returned (.int .i64 (writeD D p dt md).2)/\Does S P w.heap.size w (writeD D p dt md).1 w':=by
 obtain⟨X,hX,hXd⟩:=txt_of p
 obtain⟨Y,hY,_⟩:=txt_of dt
 obtain⟨E,hE⟩:∃ E,(stepD D ⟨cWrite,p,[]⟩).1=E:=⟨_,rfl⟩
 obtain⟨er,her⟩:∃ e,(stepD D ⟨cWrite,p,[]⟩).2=e:=⟨_,rfl⟩
 have hnum:=step_num hm ⟨cWrite,p,[]⟩
 have CS:Hid (Calls Tryz.prog 56 #[.pointer (some ⟨P,0,none⟩),.string ⟨#[87,114,105,116,101]⟩,.string X,.string ⟨#[]⟩] w fun r w'=>r=.returned (.int .i64 er)/\Does S P w.heap.size w E w'):=Lib.hid (by
  have:=step_any S w P m D ⟨cWrite,p,[]⟩ h he hH hm hm2
  rw [hE,her] at this
  simp only at this
  rw [hX] at this
  exact this)
 rw [hE] at hnum
 have HW1:Hid (er≠0->writeD D p dt md=(E,er)):=Lib.hid (fun h0=>by
  unfold writeD
  rw [after_no (by rw [her];exact h0),← hE,← her])
 have HW2:Hid (er=0->writeD D p dt md=refuse (writeE E p dt md) E (wroteD E p dt md)):=Lib.hid (fun h0=>by
  unfold writeD
  rw [after_yes (by rw [her];exact h0),← hE])
 have HE:=Lib.hid he
 have HH:=Lib.hid hH
 have HN:=Lib.hid hnum
 have HX:=Lib.hid hX
 have HXd:=Lib.hid hXd
 have HY:=Lib.hid hY
 have hb2:E.later.length<=1099511627776/\E.inos.length<=4611686018427387904:=by
  have a1:=hnum.later
  have a2:=hnum.inos
  have hk1:m*2097152<=100000*2097152:=Nat.mul_le_mul_right _ hm2
  have hk2:m*2147483648<=100000*2147483648:=Nat.mul_le_mul_right _ hm2
  constructor<;>omega
 have HB2:=Lib.hid hb2
 have HP:=Lib.hid hp
 obtain⟨Z,hZ⟩:∃ Z,writeD D p dt md=Z:=⟨_,rfl⟩
 rw [hZ] at HW1 HW2
 rw [hZ,hX,hY]
 clear h he hH hm hE her hnum hX hXd hY hb2 hp hZ
 go_enter Tryz.func12,Tryz.ntmps12
 repeat (first|(go_at_call 56;fail)|go_skip|go_guarded|go_step|go_upon)
 refine CS.out.mono ?_
 rintro r w1 ⟨rfl,hu1,S1,hs1,adr,x,hd1⟩
 simp only []
 have HU1:=Lib.hid hu1
 have HS1:=Lib.hid hs1
 have HD1:=Lib.hid hd1
 by_cases h0:er=0
 ·have HZ:=Lib.hid (HW2.out h0)
  obtain⟨ao,cap,hvn,_⟩:=layE_own hd1.rest.names
  obtain⟨n,hn⟩:∃ n,E.names.length=n:=⟨_,rfl⟩
  rw [hn] at hvn
  have hr:=hd1.row
  unfold diskC at hr
  rw [hvn] at hr
  obtain⟨c0,-,-,-,-,-,-,-,-,-⟩:=row9 hr
  have hpl:=(Array.getElem?_eq_some_iff.1 hr).1
  obtain⟨k,hk⟩:∃ k,kindD E p=k:=⟨_,rfl⟩
  have E1:=Lib.hid (env_does HE.out hu1 HH.out)
  have BA:Hid (Below w1.heap.size w1 (w1.alloc (.cells #[.string X,.int .i64 1,.string Y,.int .i64 md] 45))):=Lib.hid ((Below.refl _ _).alloc (Nat.le_refl _) _)
  have RA:Hid ((w1.alloc (.cells #[.string X,.int .i64 1,.string Y,.int .i64 md] 45)).heap[w1.heap.size]?=some (.cells #[.string X,.int .i64 1,.string Y,.int .i64 md] 45 (0,0))):=Lib.hid (heap_alloc_new w1 _)
  have CK:Hid (Calls Tryz.prog 57 #[.slice ao n cap,.string X] (w1.alloc (.cells #[.string X,.int .i64 1,.string Y,.int .i64 md] 45)) fun r w'=>r=.returned (.int .i64 k)/\Below (w1.alloc (.cells #[.string X,.int .i64 1,.string Y,.int .i64 md] 45)).heap.size (w1.alloc (.cells #[.string X,.int .i64 1,.string Y,.int .i64 md] 45)) w'):=Lib.hid (by
   have:=kind_of (hd1.below BA.out) p HP.out
   rw [hvn,HX.out,hk] at this
   exact this)
  have HK:=Lib.hid hk
  have HV:=Lib.hid hvn
  have HNl:=Lib.hid hn
  have R1:=Lib.hid hr
  subst h0
  clear hu1 hs1 hd1 hvn hn hr hk
  repeat (first|(go_at_call 57;fail)|go_skip|go_guarded|go_step|go_upon)
  refine CK.out.mono ?_
  rintro r w2 ⟨rfl,hb2⟩
  simp only []
  have B2:=Lib.hid (Below.trans BA.out (hb2.mono BA.out.size))
  have R2:=Lib.hid ((hb2.block _ (Array.getElem?_eq_some_iff.1 RA.out).1).trans RA.out)
  have D2:=Lib.hid (HD1.out.below B2.out)
  have E2:=Lib.hid (E1.out.below B2.out)
  clear hb2 c0
  obtain⟨t0,t1,t2,t3,-⟩:=row4 R2.out
  have g0:=cell_regrown t0
  have g1:=cell_regrown t1
  have g2:=cell_regrown t2
  have g3:=cell_regrown t3
  obtain⟨b1,hb1⟩:∃ b,NP.pathL p=b:=⟨_,rfl⟩
  obtain⟨b2,hb2⟩:∃ b,standB ⟨p,1,dt,md⟩=b:=⟨_,rfl⟩
  obtain⟨b3,hb3⟩:∃ b,upB E p=b:=⟨_,rfl⟩
  obtain⟨b4,hb4⟩:∃ b,roomB E p=b:=⟨_,rfl⟩
  have D1:=Lib.hid (reg_g (w:=w2) (f:=60) (args:=#[.string X]) (v:=.bool b1) (fun W hW=>by
   have:=path_txt X p W (E2.out.below hW) HXd.out HP.out
   rw [hb1] at this
   exact this))
  have D3:=Lib.hid (reg_g (w:=w2) (f:=61) (args:=#[.agg #[.string X,.int .i64 1,.string Y,.int .i64 md]]) (v:=.bool b2) (fun W hW=>by
   have:=stand_any ⟨p,1,dt,md⟩ W (E2.out.below hW)
   unfold ndVal at this
   rw [hb2] at this
   simp only at this
   rw [HX.out,HY.out] at this
   exact this))
  have D4:=Lib.hid (reg_g (w:=w2) (f:=62) (args:=#[.pointer (some ⟨P,0,none⟩),.string X]) (v:=.bool b3) (fun W hW=>by
   have:=up_any S1 W P E adr [] p ⟨x,D2.out.below hW⟩ (E2.out.below hW) HP.out
   rw [hb3,HX.out] at this
   exact this))
  have D5:=Lib.hid (reg_g (w:=w2) (f:=63) (args:=#[.pointer (some ⟨P,0,none⟩),.string X]) (v:=.bool b4) (fun W hW=>by
   have:=room_any S1 W P E adr [] p ⟨x,D2.out.below hW⟩ HP.out
   rw [hb4,HX.out] at this
   exact this))
  have D6:=Lib.hid (fun b e=>when_g w2 b e)
  obtain⟨q2,hq2⟩:∃ b,(k==2)=b:=⟨_,rfl⟩
  obtain⟨q3,hq3⟩:∃ b,(k==3)=b:=⟨_,rfl⟩
  obtain⟨e0,he0⟩:∃ e,writeE E p dt md=e:=⟨_,rfl⟩
  have HEq:Hid (firstE [whenE (!b1) 11,whenE (!b2) 2,whenE (!b3) 62,whenE (q2||q3) 73,whenE (!b4) 71]=e0):=Lib.hid (by
   rw [<- he0]
   unfold writeE
   rw [hb1,hb2,hb3,hb4,HK.out,← hq2,← hq3]
   have z2:decide (k=2)=(k==2):=by by_cases h:k=2<;>simp [h]
   have z3:decide (k=3)=(k==3):=by by_cases h:k=3<;>simp [h]
   rw [z2,z3])
  have HFacts:Hid (e0=0->NP.pathL p=true/\standB ⟨p,1,dt,md⟩=true/\roomB E p=true):=Lib.hid (fun hz=>by
   have h1:=HEq.out
   rw [hz] at h1
   obtain⟨z1,h1⟩:=first_cons h1
   obtain⟨z2,h1⟩:=first_cons h1
   obtain⟨_,h1⟩:=first_cons h1
   obtain⟨_,h1⟩:=first_cons h1
   obtain⟨z5,_⟩:=first_cons h1
   have y1:=when_zero z1 (by omega)
   have y2:=when_zero z2 (by omega)
   have y5:=when_zero z5 (by omega)
   rw [hb1,hb2,hb4]
   simp at y1 y2 y5
   exact⟨y1,y2,y5⟩)
  have HE0:=Lib.hid he0
  clear hb1 hb2 hb3 hb4 he0 t0 t1 t2 t3
  cases q2
  all_goals
   repeat (first|go_skip|go_guarded|go_step|go_upon)
   with_reducible refine QT.region_tail 25 (by kernel_rfl) (by kernel_rfl) ?_
   simp only [List.take_succ_cons,List.take_zero,List.drop_succ_cons,List.drop_zero]
   repeat (go_big_quiet_step (first|(go_at_call 60;exact D1.out _ _)|(go_at_call 61;exact D3.out _ _)|(go_at_call 62;exact D4.out _ _)|(go_at_call 63;exact D5.out _ _)|(go_at_call 59;exact D6.out _ _ _ _)))
   refine wpQuiet_nil ?_
   intro _ hw'
   obtain⟨⟨dq,osq⟩,hw''⟩:=hw'
   subst hw''
   have B5:=Lib.hid (below_regrown w2 dq osq)
   clear g0 g1 g2 g3
   generalize Go.Sort.grow (redrawn w2 dq) osq=w5 at B5 ⊢
   have B6:=Lib.hid (Below.trans B2.out (B5.out.mono B2.out.size))
   have R6:=Lib.hid ((B5.out.block _ (Array.getElem?_eq_some_iff.1 R2.out).1).trans R2.out)
   repeat (first|(go_at_call 58;fail)|go_skip|go_guarded|go_step|go_upon)
   refine (first5 _ _ _ _ _ _ _ _ (heap_alloc_new w5 _)).mono ?_
   rintro r w7 ⟨hr6,hw7⟩
   have hr7:=hr6.trans (congrArg (fun z=>Ending.returned (.int .i64 z)) HEq.out)
   subst hr7
   clear hr6
   simp only []
   have B7:Hid (Below w1.heap.size w1 w7):=Lib.hid (hw7 ▸ B6.out.alloc B6.out.size _)
   have R7:=Lib.hid (hw7 ▸ (Below.heap_alloc w5 _ _ (Array.getElem?_eq_some_iff.1 R6.out).1).trans R6.out)
   clear hw7
   by_cases he0:e0=0
   ·subst he0
    have HFa:=Lib.hid (HFacts.out rfl)
    have HZ2:Hid (Z=(wroteD E p dt md,0)):=Lib.hid (by rw [HZ.out,HE0.out];rfl)
    have D7:=Lib.hid (HD1.out.below B7.out)
    by_cases hk0:k=0
    ·subst hk0
     have HZ3:Hid (Z=(DP.setI (changeD (freshD E ⟨p,1,dt,md⟩) [freshE E ⟨p,1,dt,md⟩]) p (wroteI (changeD (freshD E ⟨p,1,dt,md⟩) [freshE E ⟨p,1,dt,md⟩]) dt md),0)):=Lib.hid (by
      rw [HZ2.out]
      unfold wroteD
      rw [if_pos HK.out])
     have HL:Hid (E.names.length<1000):=Lib.hid (by
      have:=HFa.out.2.2
      unfold roomB at this
      rw [HK.out] at this
      simp at this
      omega)
     obtain⟨t0,t1,t2,t3,-⟩:=row4 R7.out
     repeat (first|(go_at_call 54;fail)|go_skip|go_guarded|go_step|go_upon)
     have CF:=fresh_any S1 w7 P E adr [] ⟨p,1,dt,md⟩ ⟨x,D7.out⟩ (fun e he=>by cases he) (stand_data HFa.out.2.1) HB2.out.2
     unfold ndVal at CF
     simp only at CF
     rw [HX.out,HY.out] at CF
     refine CF.mono ?_
     rintro r w8 ⟨gg,hgg,rfl,hd8,hu8⟩
     clear CF
     simp only []
     obtain⟨adr9,had9⟩:∃ a,updA adr (E.inos.length+1) gg=a:=⟨_,rfl⟩
     have hpt:ptrV adr9 (freshE E ⟨p,1,dt,md⟩).kind=.pointer (some ⟨gg,0,none⟩):=by
      rw [<- had9]
      unfold ptrV
      rw [show (freshE E ⟨p,1,dt,md⟩).kind=((E.inos.length+1:Nat):Int) from rfl,if_neg (by omega),updA_new]
     have hev:enV (updA adr (E.inos.length+1) gg) (freshE E ⟨p,1,dt,md⟩)=.agg #[.string X,.pointer (some ⟨gg,0,none⟩)]:=by
      unfold enV
      rw [had9,hpt,show (freshE E ⟨p,1,dt,md⟩).path=p from rfl,HX.out]
     rw [hev]
     rw [had9] at hd8
     have HCh:=Lib.hid (chg_fresh (g:=w8.heap.size) hd8 HD1.out.fit.names HFa.out.1 HL.out rfl HX.out hpt)
     have HD8:=Lib.hid hd8
     have HU8:=Lib.hid hu8
     have HG8:=Lib.hid hgg
     clear hd8 hu8 hev hpt had9 hgg
     repeat (first|(go_at_call 64;fail)|go_skip|go_guarded|go_step|go_upon)
     refine (change_any _ _ P _ adr9 _ _ 1 [freshE E ⟨p,1,dt,md⟩] (by obtain⟨x8,h8⟩:=HD8.out;exact⟨x8,h8.below ((Below.refl _ _).alloc (Nat.le_refl _) _)⟩) HCh.out HB2.out.1).mono ?_
     rintro r w9 ⟨rfl,⟨S9,hs9,hd9⟩,hu9⟩
     simp only []
     obtain⟨x9,hx9⟩:=diskA_pend (pend':=[]) hd9 (fun e he=>by cases he)
     have H9:=Lib.hid hx9
     have HF0:Hid (findN (changeD (freshD E ⟨p,1,dt,md⟩) [freshE E ⟨p,1,dt,md⟩]).names p=some (freshE E ⟨p,1,dt,md⟩)):=Lib.hid (find_laid (n:=⟨p,1,dt,md⟩) (by
      have:=hx9.fit.names
      have hl:(changeD (freshD E ⟨p,1,dt,md⟩) [freshE E ⟨p,1,dt,md⟩]).inos.length=E.inos.length+1:=by show (E.inos++[_]).length=_;simp
      rw [hl] at this
      exact this))
     obtain⟨e9,he9,hf9⟩:∃ e,freshE E ⟨p,1,dt,md⟩=e/\findN (changeD (freshD E ⟨p,1,dt,md⟩) [freshE E ⟨p,1,dt,md⟩]).names p=some e:=⟨_,rfl,HF0.out⟩
     have HF9:=Lib.hid hf9
     have h09:e9.kind≠0:=by
      rw [<- he9]
      show ((E.inos.length+1:Nat):Int)≠0
      omega
     have HU9:Hid (Out (fun k=>S1 k∨k=P) w1 w9):=Lib.hid (by
      have hz1:=B7.out.size
      have hz8:=HU8.out.size
      refine (((((Out.refl _ w1).thenBelow B7.out).then HU8.out (fun j hj hT=>.inr hT))).alloc _).then hu9 (fun j hj hT=>?_)
      rcases hT with ⟨hT|hT,_⟩|hT
      ·exact .inl hT
      ·have:=HG8.out;omega
      ·exact .inr hT)
     have HS9:Hid (∀ k,S9 k->S1 k∨w1.heap.size<=k):=Lib.hid (fun k hk=>by
      have hz1:=B7.out.size
      have hz8:=HU8.out.size
      have hz9:=HG8.out
      have hz10:(w8.alloc (.cells #[.string X,.pointer (some ⟨gg,0,none⟩)] 125)).heap.size=w8.heap.size+1:=by simp
      rcases hs9 k hk with (h4|h4)|⟨a,h4,h5⟩|h4
      ·exact .inl h4
      ·exact .inr (by omega)
      ·injection h4 with h4
       subst h4
       exact .inr (by simp only at h5;omega)
      ·exact .inr (by omega))
     clear hs9 hd9 hu9 hx9 hf9 he9
     obtain⟨ao9,cap9,hvn9,_⟩:=layE_own H9.out.rest.names
     obtain⟨n9,hn9⟩:∃ n,(changeD (freshD E ⟨p,1,dt,md⟩) [freshE E ⟨p,1,dt,md⟩]).names.length=n:=⟨_,rfl⟩
     rw [hn9] at hvn9
     obtain⟨gg9,hgg9⟩:∃ g,adr9 e9.kind=g:=⟨_,rfl⟩
     obtain⟨cz,hcz⟩:∃ c,(changeD (freshD E ⟨p,1,dt,md⟩) [freshE E ⟨p,1,dt,md⟩]).clock=c:=⟨_,rfl⟩
     have hr9:=H9.out.row
     unfold diskC at hr9
     rw [hvn9,hcz] at hr9
     obtain⟨k0,-,-,-,-,k5,-,-,-,-⟩:=row9 hr9
     have hin9:=H9.out.rest.inos e9 (List.mem_append_right _ (by unfold liveL;exact List.mem_append_left _ (find_mem HF9.out).1)) h09
     rw [hgg9] at hin9
     have D7:=Lib.hid (reg_g (w:=w9) (f:=65) (args:=#[.slice ao9 n9 cap9,.string X]) (v:=.pointer (some ⟨gg9,0,none⟩)) (fun W hW=>by
      have:=at_there (H9.out.below hW) p HP.out (path_ne HFa.out.1) HF9.out h09
      rw [hvn9,HX.out,hgg9] at this
      exact this))
     have HCW:Hid (∀ W,Below w9.heap.size w9 W->Calls Tryz.prog 66 #[.pointer (some ⟨gg9,0,none⟩),.string Y,.int .i64 md,.int .i64 cz] W fun r w'=>r=.returned (.tuple #[])/\InoAt w' gg9 e9.kind (wroteI (changeD (freshD E ⟨p,1,dt,md⟩) [freshE E ⟨p,1,dt,md⟩]) dt md (inoOf (changeD (freshD E ⟨p,1,dt,md⟩) [freshE E ⟨p,1,dt,md⟩]).inos e9.kind))/\Turn gg9 W w'):=Lib.hid (fun W hW=>by
      have:=write_any gg9 e9.kind (inoOf (changeD (freshD E ⟨p,1,dt,md⟩) [freshE E ⟨p,1,dt,md⟩]).inos e9.kind) dt md cz W ((hW.block _ (Array.getElem?_eq_some_iff.1 hin9).1).trans hin9)
      rw [HY.out,← hcz] at this
      rw [<- hcz]
      exact this)
     have HGg:=Lib.hid hgg9
     have l0:=cell_regrown k0
     have l5:=cell_regrown k5
     clear hvn9 hn9 hgg9 hcz hr9 hin9 k0 k5
     repeat (first|go_skip|go_guarded|go_step|go_upon)
     with_reducible refine QT.region_tail 12 (by kernel_rfl) (by kernel_rfl) ?_
     simp only [List.take_succ_cons,List.take_zero,List.drop_succ_cons,List.drop_zero]
     repeat (go_big_quiet_step (first|(go_at_call 65;exact D7.out _ _)))
     refine wpQuiet_nil ?_
     intro _ hw'
     obtain⟨⟨dq9,osq9⟩,hw''⟩:=hw'
     subst hw''
     have B9:=Lib.hid (below_regrown w9 dq9 osq9)
     clear l0 l5
     generalize Go.Sort.grow (redrawn w9 dq9) osq9=w10 at B9 ⊢
     repeat (first|(go_at_call 66;fail)|go_skip|go_guarded|go_step|go_upon)
     refine (HCW.out w10 B9.out).mono ?_
     rintro r w11 ⟨rfl,hi11,ht11⟩
     simp only []
     have H11:=Lib.hid (diskX_ino (f:=wroteI (changeD (freshD E ⟨p,1,dt,md⟩) [freshE E ⟨p,1,dt,md⟩]) dt md) (H9.out.below B9.out) HF9.out (by rw [HGg.out];exact ht11) (by rw [HGg.out];exact hi11) (stand_data HFa.out.2.1))
     have HSg:Hid (S9 gg9):=Lib.hid (by
      rw [<- HGg.out]
      exact H9.out.rest.iin e9 (List.mem_append_right _ (by unfold liveL;exact List.mem_append_left _ (find_mem HF9.out).1)) h09)
     have HT11:=Lib.hid ht11
     clear hi11 ht11
     repeat (first|go_skip|go_guarded|go_step|go_upon)
     go_ret
     rw [HZ3.out]
     refine⟨rfl,does_then HU1.out HS1.out (((HU9.out.thenBelow B9.out)).then HT11.out (fun j hj hT=>?_)) HS9.out ⟨adr9,x9,H11.out⟩⟩
     subst hT
     rcases HS9.out _ HSg.out with h4|h4
     ·exact .inl h4
     ·omega
    ·have hk1:(k==0)=false:=by simpa using hk0
     have HZ3:Hid (Z=(DP.setI E p (wroteI E dt md),0)):=Lib.hid (by
      rw [HZ2.out]
      unfold wroteD
      rw [if_neg (by rw [HK.out];exact hk0)])
     obtain⟨e9,he9,_,h09,_⟩:=kindD_ino (path_ne HFa.out.1) HD1.out.fit (by rw [HK.out];exact hk0)
     have HF9:=Lib.hid he9
     have HU9:Hid (Out (fun k=>S1 k∨k=P) w1 w7):=Lib.hid ((Out.refl _ w1).thenBelow B7.out)
     have HS9:Hid (∀ k,S1 k->S1 k∨w1.heap.size<=k):=Lib.hid (fun k hk=>.inl hk)
     have H9:=D7
     obtain⟨S9,hS9⟩:∃ T,S1=T:=⟨_,rfl⟩
     obtain⟨adr9,hadr9⟩:∃ T,adr=T:=⟨_,rfl⟩
     obtain⟨x9,hx9⟩:∃ T,x=T:=⟨_,rfl⟩
     rw [hadr9,hx9] at H9
     clear D7 he9 hk0
     subst hS9 hadr9 hx9
     obtain⟨w9,hw9⟩:∃ T,w7=T:=⟨_,rfl⟩
     subst hw9
     obtain⟨ao9,cap9,hvn9,_⟩:=layE_own H9.out.rest.names
     obtain⟨n9,hn9⟩:∃ n,(E).names.length=n:=⟨_,rfl⟩
     rw [hn9] at hvn9
     obtain⟨gg9,hgg9⟩:∃ g,adr e9.kind=g:=⟨_,rfl⟩
     obtain⟨cz,hcz⟩:∃ c,(E).clock=c:=⟨_,rfl⟩
     have hr9:=H9.out.row
     unfold diskC at hr9
     rw [hvn9,hcz] at hr9
     obtain⟨k0,-,-,-,-,k5,-,-,-,-⟩:=row9 hr9
     have hin9:=H9.out.rest.inos e9 (List.mem_append_right _ (by unfold liveL;exact List.mem_append_left _ (find_mem HF9.out).1)) h09
     rw [hgg9] at hin9
     have D7:=Lib.hid (reg_g (w:=w7) (f:=65) (args:=#[.slice ao9 n9 cap9,.string X]) (v:=.pointer (some ⟨gg9,0,none⟩)) (fun W hW=>by
      have:=at_there (H9.out.below hW) p HP.out (path_ne HFa.out.1) HF9.out h09
      rw [hvn9,HX.out,hgg9] at this
      exact this))
     have HCW:Hid (∀ W,Below w7.heap.size w7 W->Calls Tryz.prog 66 #[.pointer (some ⟨gg9,0,none⟩),.string Y,.int .i64 md,.int .i64 cz] W fun r w'=>r=.returned (.tuple #[])/\InoAt w' gg9 e9.kind (wroteI (E) dt md (inoOf (E).inos e9.kind))/\Turn gg9 W w'):=Lib.hid (fun W hW=>by
      have:=write_any gg9 e9.kind (inoOf (E).inos e9.kind) dt md cz W ((hW.block _ (Array.getElem?_eq_some_iff.1 hin9).1).trans hin9)
      rw [HY.out,← hcz] at this
      rw [<- hcz]
      exact this)
     have HGg:=Lib.hid hgg9
     have l0:=cell_regrown k0
     have l5:=cell_regrown k5
     clear hvn9 hn9 hgg9 hcz hr9 hin9 k0 k5
     repeat (first|go_skip|go_guarded|go_step|go_upon)
     with_reducible refine QT.region_tail 12 (by kernel_rfl) (by kernel_rfl) ?_
     simp only [List.take_succ_cons,List.take_zero,List.drop_succ_cons,List.drop_zero]
     repeat (go_big_quiet_step (first|(go_at_call 65;exact D7.out _ _)))
     refine wpQuiet_nil ?_
     intro _ hw'
     obtain⟨⟨dq9,osq9⟩,hw''⟩:=hw'
     subst hw''
     have B9:=Lib.hid (below_regrown w7 dq9 osq9)
     clear l0 l5
     generalize Go.Sort.grow (redrawn w7 dq9) osq9=w10 at B9 ⊢
     repeat (first|(go_at_call 66;fail)|go_skip|go_guarded|go_step|go_upon)
     refine (HCW.out w10 B9.out).mono ?_
     rintro r w11 ⟨rfl,hi11,ht11⟩
     simp only []
     have H11:=Lib.hid (diskX_ino (f:=wroteI (E) dt md) (H9.out.below B9.out) HF9.out (by rw [HGg.out];exact ht11) (by rw [HGg.out];exact hi11) (stand_data HFa.out.2.1))
     have HSg:Hid (S1 gg9):=Lib.hid (by
      rw [<- HGg.out]
      exact H9.out.rest.iin e9 (List.mem_append_right _ (by unfold liveL;exact List.mem_append_left _ (find_mem HF9.out).1)) h09)
     have HT11:=Lib.hid ht11
     clear hi11 ht11
     repeat (first|go_skip|go_guarded|go_step|go_upon)
     go_ret
     rw [HZ3.out]
     refine⟨rfl,does_then HU1.out HS1.out (((HU9.out.thenBelow B9.out)).then HT11.out (fun j hj hT=>?_)) HS9.out ⟨adr,x,H11.out⟩⟩
     subst hT
     rcases HS9.out _ HSg.out with h4|h4
     ·exact .inl h4
     ·omega
   ·have hez:(e0 != 0)=true:=by simpa using he0
    have HZ2:Hid (Z=(E,e0)):=Lib.hid (by rw [HZ.out,HE0.out];unfold refuse;rw [if_neg he0])
    clear he0
    repeat (first|go_skip|go_guarded|go_step|go_upon)
    go_ret
    rw [HZ2.out]
    exact⟨rfl,does_below HU1.out HS1.out ⟨adr,x,HD1.out⟩ B7.out⟩
 ·have HZ:=Lib.hid (HW1.out h0)
  have hez:(er != 0)=true:=by simpa using h0
  clear hu1 hs1 hd1 h0
  repeat (first|go_skip|go_guarded|go_step|go_upon)
  go_ret
  rw [HZ.out]
  exact⟨rfl,HU1.out,S1,HS1.out,adr,x,HD1.out⟩
end DG
end Go.Proofs.YtmohjalanhnhbaaGreatDoor
end

section
namespace Go.Proofs.YtmohjalanhnhbaaGreatDoor
open Go.RowKit Go.Lib Go.BigFrame
namespace DG
open OM TP TM DP DM TG TR FP
theorem dsync_any (S:Nat->Prop) (w:World) (P m:Nat) (D:Dk) (p:List UInt8) (h:Disk S w P D) (he:NF.Env w) (hH:Hi S P) (hm:Num m D) (hm2:m<=100000) (hp:p.length<=maxLen) :
  Calls Tryz.prog 50 #[.pointer (some ⟨P,0,none⟩),txt p] w fun r w'=>r=.returned (.int .i64 (syncD D p).2)/\Does S P w.heap.size w (syncD D p).1 w':=by
 obtain⟨X,hX,hXd⟩:=txt_of p
 obtain⟨E,hE⟩:∃ E,(stepD D ⟨cSync,p,[]⟩).1=E:=⟨_,rfl⟩
 obtain⟨er,her⟩:∃ e,(stepD D ⟨cSync,p,[]⟩).2=e:=⟨_,rfl⟩
 have hnum:=step_num hm ⟨cSync,p,[]⟩
 have CS:Hid (Calls Tryz.prog 56 #[.pointer (some ⟨P,0,none⟩),.string ⟨#[83,121,110,99]⟩,.string X,.string ⟨#[]⟩] w fun r w'=>r=.returned (.int .i64 er)/\Does S P w.heap.size w E w'):=Lib.hid (by
  have:=step_any S w P m D ⟨cSync,p,[]⟩ h he hH hm hm2
  rw [hE,her] at this
  simp only at this
  rw [hX] at this
  exact this)
 rw [hE] at hnum
 have HW1:Hid (er≠0->syncD D p=(E,er)):=Lib.hid (fun h0=>by
  unfold syncD
  rw [after_no (by rw [her];exact h0),← hE,← her])
 have HW2:Hid (er=0->syncD D p=refuse (syncE E p) E (DP.setI E p syncI)):=Lib.hid (fun h0=>by
  unfold syncD
  rw [after_yes (by rw [her];exact h0),← hE])
 have HE:=Lib.hid he
 have HH:=Lib.hid hH
 have HN:=Lib.hid hnum
 have HX:=Lib.hid hX
 have HXd:=Lib.hid hXd
 have HPp:=Lib.hid hp
 have hb2:E.later.length<=1099511627776/\E.inos.length<=4611686018427387904:=by
  have a1:=hnum.later
  have a2:=hnum.inos
  have hk1:m*2097152<=100000*2097152:=Nat.mul_le_mul_right _ hm2
  have hk2:m*2147483648<=100000*2147483648:=Nat.mul_le_mul_right _ hm2
  constructor<;>omega
 have HB2:=Lib.hid hb2
 obtain⟨Z,hZ⟩:∃ Z,syncD D p=Z:=⟨_,rfl⟩
 rw [hZ] at HW1 HW2
 rw [hZ,hX]
 clear h he hH hm hE her hnum hb2 hZ hX hXd hp
 go_enter Tryz.func50,Tryz.ntmps50
 repeat (first|(go_at_call 56;fail)|go_skip|go_guarded|go_step|go_upon)
 refine CS.out.mono ?_
 rintro r w1 ⟨rfl,hu1,S1,hs1,adr,x,hd1⟩
 simp only []
 have HU1:=Lib.hid hu1
 have HS1:=Lib.hid hs1
 have HD1:=Lib.hid hd1
 by_cases h0:er=0
 ·have HZ:=Lib.hid (HW2.out h0)
  obtain⟨ao,cap,hvn,_⟩:=layE_own hd1.rest.names
  obtain⟨n,hn⟩:∃ n,E.names.length=n:=⟨_,rfl⟩
  rw [hn] at hvn
  have hr:=hd1.row
  unfold diskC at hr
  rw [hvn] at hr
  obtain⟨c0,-,-,-,-,-,-,-,-,-⟩:=row9 hr
  have hpl:=(Array.getElem?_eq_some_iff.1 hr).1
  have E1:=Lib.hid (env_does HE.out hu1 HH.out)
  have HV:=Lib.hid hvn
  have HNl:=Lib.hid hn
  have g0:=cell_regrown c0
  have D6:=Lib.hid (fun b e=>when_g w1 b e)
  obtain⟨b1,hb1⟩:∃ b,NP.pathL p=b:=⟨_,rfl⟩
  have D1:=Lib.hid (reg_g (w:=w1) (f:=60) (args:=#[.string X]) (v:=.bool b1) (fun W hW=>by
   have:=path_txt X p W (E1.out.below hW) HXd.out HPp.out
   rw [hb1] at this
   exact this))
  obtain⟨k,hk⟩:∃ k,kindD E p=k:=⟨_,rfl⟩
  have D2:=Lib.hid (reg_g (w:=w1) (f:=57) (args:=#[.slice ao n cap,.string X]) (v:=.int .i64 k) (fun W hW=>by
   have:=kind_of (HD1.out.below hW) p HPp.out
   rw [HV.out,HX.out,hk] at this
   exact this))
  obtain⟨q0,hq0⟩:∃ b,(k==0)=b:=⟨_,rfl⟩
  obtain⟨e0,he0⟩:∃ e,syncE E p=e:=⟨_,rfl⟩
  have HK:=Lib.hid hk
  have HEq:Hid (firstE [whenE (!b1) 11,whenE q0 74]=e0):=Lib.hid (by
   rw [<- he0]
   unfold syncE
   rw [hb1,HK.out,← hq0]
   have z2:decide (k=0)=(k==0):=by by_cases h:k=0<;>simp [h]
   rw [z2])
  have HFacts:Hid (e0=0->NP.pathL p=true/\kindD E p≠0):=Lib.hid (fun hz=>by
   have h1:=HEq.out
   rw [hz] at h1
   obtain⟨z1,h1⟩:=first_cons h1
   obtain⟨z2,h1⟩:=first_cons h1
   have y1:=when_zero z1 (by omega)
   have y2:=when_zero z2 (by omega)
   rw [hb1,hk]
   rw [<- hq0] at y2
   simp at y1 y2
   exact⟨y1,y2⟩)
  have HE0:=Lib.hid he0
  subst h0
  clear hu1 hs1 hd1 hvn hn hr hk hb1 he0 c0
  repeat (first|go_skip|go_guarded|go_step|go_upon)
  with_reducible refine QT.region_tail 12 (by kernel_rfl) (by kernel_rfl) ?_
  simp only [List.take_succ_cons,List.take_zero,List.drop_succ_cons,List.drop_zero]
  repeat (go_big_quiet_step (first|(go_at_call 60;with_reducible exact D1.out _ _)|(go_at_call 57;with_reducible exact D2.out _ _)|(go_at_call 59;with_reducible exact D6.out _ _ _ _)))
  refine wpQuiet_nil ?_
  intro _ hw'
  obtain⟨⟨dq,osq⟩,hw''⟩:=hw'
  subst hw''
  have B5:=Lib.hid (below_regrown w1 dq osq)
  clear g0
  generalize Go.Sort.grow (redrawn w1 dq) osq=w5 at B5 ⊢
  repeat (first|(go_at_call 58;fail)|go_skip|go_guarded|go_step|go_upon)
  refine (first2 _ _ _ _ _ (heap_alloc_new w5 _)).mono ?_
  rintro r w7 ⟨hr6,hw7⟩
  have hr7:=hr6.trans (congrArg (fun z=>Ending.returned (.int .i64 z)) HEq.out)
  subst hr7
  clear hr6
  simp only []
  have B7:Hid (Below w1.heap.size w1 w7):=Lib.hid (hw7 ▸ B5.out.alloc B5.out.size _)
  clear hw7
  by_cases he0:e0=0
  ·subst he0
   have HFa:=Lib.hid (HFacts.out rfl)
   have HZ2:Hid (Z=(DP.setI E p syncI,0)):=Lib.hid (by rw [HZ.out,HE0.out];rfl)
   have D7:=Lib.hid (HD1.out.below B7.out)
   have hr7:=D7.out.row
   unfold diskC at hr7
   rw [HV.out] at hr7
   obtain⟨k0,-,-,-,-,k5,-,-,-,-⟩:=row9 hr7
   obtain⟨e9,he9,_,h09,_⟩:=kindD_ino (path_ne HFa.out.1) HD1.out.fit HFa.out.2
   have HF9:=Lib.hid he9
   obtain⟨gg,hgg⟩:∃ g,adr e9.kind=g:=⟨_,rfl⟩
   have HGg:=Lib.hid hgg
   have CA:Hid (Calls Tryz.prog 65 #[.slice ao n cap,.string X] w7 fun r w'=>r=.returned (.pointer (some ⟨gg,0,none⟩))/\Below w7.heap.size w7 w'):=Lib.hid (by
    have:=at_there D7.out p HPp.out (path_ne HFa.out.1) HF9.out h09
    rw [HV.out,HX.out,hgg] at this
    exact this)
   clear hr7 he9 hgg
   repeat (first|(go_at_call 65;fail)|go_skip|go_guarded|go_step|go_upon)
   refine CA.out.mono ?_
   rintro r w8 ⟨rfl,hb8⟩
   simp only []
   have B8:=Lib.hid (Below.trans B7.out (hb8.mono B7.out.size))
   have D8:=Lib.hid (HD1.out.below B8.out)
   have hlive:e9∈[]++liveL E:=List.mem_append_right _ (by unfold liveL;exact List.mem_append_left _ (find_mem HF9.out).1)
   have hino:=D8.out.rest.inos e9 hlive h09
   have HSg:Hid (S1 gg):=Lib.hid (HGg.out ▸ HD1.out.rest.iin e9 hlive h09)
   have HDl:Hid ((syncI (inoOf E.inos e9.kind)).data.length<=65536):=Lib.hid (by
    show (inoOf E.inos e9.kind).data.length<=_
    obtain⟨kk,hkk,hk1,hk2⟩:=live_row HD1.out.fit (show e9∈liveL E by unfold liveL;exact List.mem_append_left _ (find_mem HF9.out).1)
    unfold inoOf
    rw [List.getD_eq_getElem?_getD,List.getElem?_eq_getElem (by omega)]
    exact HD1.out.fit.data _ (List.getElem_mem _))
   rw [HGg.out] at hino
   obtain⟨i9,hi9⟩:∃ i,inoOf E.inos e9.kind=i:=⟨_,rfl⟩
   rw [hi9] at hino
   obtain⟨Y9,hY9,_⟩:=txt_of i9.data
   unfold InoAt inoC at hino
   rw [hY9] at hino
   obtain⟨-,-,-,-,-,k5b,kf⟩:=row6 hino
   have HI9:Hid (InoAt (w8.setCell ⟨gg,5,none⟩ (.bool false)) gg e9.kind (syncI (inoOf E.inos e9.kind))):=Lib.hid (by
    rw [hi9]
    unfold InoAt inoC syncI
    simp only
    rw [hY9]
    exact row_set (j:=5) hino _)
   have HT9:Hid (Turn gg w8 (w8.setCell ⟨gg,5,none⟩ (.bool false))):=Lib.hid ((Out.refl (fun k=>k=gg) w8).setCell (p:=⟨gg,5,none⟩) (fun _=>rfl) _)
   clear hino hi9 hb8 hY9 k0 k5
   repeat (first|go_skip|go_guarded|go_step|go_upon)
   go_ret
   rw [HZ2.out]
   refine⟨rfl,does_then (S2:=S1) HU1.out HS1.out (((Out.refl _ w1).thenBelow B8.out).then HT9.out (fun j hj hT=>?_)) (fun k hk=>.inl hk) ⟨adr,x,diskX_ino (f:=syncI) D8.out HF9.out (by rw [HGg.out];exact HT9.out) (by rw [HGg.out];exact HI9.out) HDl.out⟩⟩
   subst hT
   exact .inl HSg.out
  ·have hez:(e0 != 0)=true:=by simpa using he0
   have hez2:(e0==0)=false:=by simpa using he0
   have HZ2:Hid (Z=(E,e0)):=Lib.hid (by rw [HZ.out,HE0.out];unfold refuse;rw [if_neg he0])
   clear he0
   repeat (first|go_skip|go_guarded|go_step|go_upon)
   go_ret
   rw [HZ2.out]
   exact⟨rfl,does_below HU1.out HS1.out ⟨adr,x,HD1.out⟩ B7.out⟩
 ·have HZ:=Lib.hid (HW1.out h0)
  have hez:(er != 0)=true:=by simpa using h0
  have hez2:(er==0)=false:=by simpa using h0
  clear hu1 hs1 hd1 h0
  repeat (first|go_skip|go_guarded|go_step|go_upon)
  go_ret
  rw [HZ.out]
  exact⟨rfl,HU1.out,S1,HS1.out,adr,x,HD1.out⟩
theorem dflush_any (S:Nat->Prop) (w:World) (P m:Nat) (D:Dk) (h:Disk S w P D) (he:NF.Env w) (hH:Hi S P) (hm:Num m D) (hm2:m<=100000) :
  Calls Tryz.prog 51 #[.pointer (some ⟨P,0,none⟩)] w fun r w'=>r=.returned (.int .i64 (flushD D).2)/\Does S P w.heap.size w (flushD D).1 w':=by
 obtain⟨E,hE⟩:∃ E,(stepD D ⟨cFlush,[],[]⟩).1=E:=⟨_,rfl⟩
 obtain⟨er,her⟩:∃ e,(stepD D ⟨cFlush,[],[]⟩).2=e:=⟨_,rfl⟩
 have hnum:=step_num hm ⟨cFlush,[],[]⟩
 have CS:Hid (Calls Tryz.prog 56 #[.pointer (some ⟨P,0,none⟩),.string ⟨#[70,108,117,115,104]⟩,.string ⟨#[]⟩,.string ⟨#[]⟩] w fun r w'=>r=.returned (.int .i64 er)/\Does S P w.heap.size w E w'):=Lib.hid (by
  have:=step_any S w P m D ⟨cFlush,[],[]⟩ h he hH hm hm2
  rw [hE,her] at this
  simp only at this
  exact this)
 rw [hE] at hnum
 have HW1:Hid (er≠0->flushD D=(E,er)):=Lib.hid (fun h0=>by
  unfold flushD
  rw [after_no (by rw [her];exact h0),← hE,← her])
 have HW2:Hid (er=0->flushD D=(settleD E,0)):=Lib.hid (fun h0=>by
  unfold flushD
  rw [after_yes (by rw [her];exact h0),← hE])
 have HE:=Lib.hid he
 have HH:=Lib.hid hH
 have HN:=Lib.hid hnum
 have hb2:E.later.length<=1099511627776/\E.inos.length<=4611686018427387904:=by
  have a1:=hnum.later
  have a2:=hnum.inos
  have hk1:m*2097152<=100000*2097152:=Nat.mul_le_mul_right _ hm2
  have hk2:m*2147483648<=100000*2147483648:=Nat.mul_le_mul_right _ hm2
  constructor<;>omega
 have HB2:=Lib.hid hb2
 obtain⟨Z,hZ⟩:∃ Z,flushD D=Z:=⟨_,rfl⟩
 rw [hZ] at HW1 HW2
 rw [hZ]
 clear h he hH hm hE her hnum hb2 hZ
 go_enter Tryz.func51,Tryz.ntmps51
 repeat (first|(go_at_call 56;fail)|go_skip|go_guarded|go_step|go_upon)
 refine CS.out.mono ?_
 rintro r w1 ⟨rfl,hu1,S1,hs1,adr,x,hd1⟩
 simp only []
 have HU1:=Lib.hid hu1
 have HS1:=Lib.hid hs1
 have HD1:=Lib.hid hd1
 by_cases h0:er=0
 ·have HZ:Hid (Z=(settleD E,0)):=Lib.hid (HW2.out h0)
  have CC:=Lib.hid (settle_any S1 w1 P E adr [] ⟨x,hd1⟩)
  subst h0
  clear hu1 hs1 hd1
  repeat (first|(go_at_call 55;fail)|go_skip|go_guarded|go_step|go_upon)
  refine CC.out.mono ?_
  rintro r w2 ⟨rfl,⟨S2,hs2,hd2⟩,hu2⟩
  simp only []
  repeat (first|go_skip|go_guarded|go_step|go_upon)
  go_ret
  rw [HZ.out]
  exact⟨rfl,does_then HU1.out HS1.out hu2 (fun k hk=>(hs2 k hk).elim .inl (fun h=>h.elim False.elim .inr)) ⟨adr,hd2⟩⟩
 ·have HZ:=Lib.hid (HW1.out h0)
  have hez:(er != 0)=true:=by simpa using h0
  have hez2:(er==0)=false:=by simpa using h0
  clear hu1 hs1 hd1 h0
  repeat (first|go_skip|go_guarded|go_step|go_upon)
  go_ret
  rw [HZ.out]
  exact⟨rfl,HU1.out,S1,HS1.out,adr,x,HD1.out⟩
end DG
end Go.Proofs.YtmohjalanhnhbaaGreatDoor
end

section
namespace Go.Proofs.YtmohjalanhnhbaaGreatDoor
open Go.RowKit Go.Lib Go.BigFrame
namespace DG
open OM TP TM DP DM TG TR FP
theorem del_less {ns:List Nd} {p:List UInt8} {e:Nd} (h:findN ns p=some e):(delE ns p).length<ns.length:=by
 obtain⟨hm,hp⟩:=find_mem h
 unfold delE
 exact List.length_filter_lt_length_iff_exists.2 ⟨e,hm,by simp [hp]⟩
theorem chg_replace {S1:Nat->Prop} {W:World} {P:Nat} {E:Dk} {adr:Int->Nat} {x:Parts} {p q:List UInt8} {a b c:Value} {g:Nat} {e9:Nd} (h:DiskX S1 W P E adr [] x) (hg:g=W.heap.size) (ha:txt p=a) (hb:txt q=b) (hc:ptrV adr (inoN E.names p)=c)
  (hp:NP.pathL p=true) (hq:NP.pathL q=true) (he:findN E.names p=some e9) (hi:inoN E.names p=e9.kind) :
  ChgIn S1 (W.alloc (.cells #[a,.pointer none,b,c] 125)) E adr [] (some ⟨g,0,none⟩) [en p 0,en q (inoN E.names p)]:=by
 subst hg ha hb hc
 have hn:=heap_alloc_new W (.cells #[txt p,.pointer none,txt q,ptrV adr (inoN E.names p)] 125)
 obtain⟨c0,c1,c2,c3,_⟩:=row4 hn
 have hlive:e9∈liveL E:=by unfold liveL;exact List.mem_append_left _ (find_mem he).1
 obtain⟨k,hk,hk1,hk2⟩:=live_row h.fit hlive
 refine⟨fun _=>⟨W.heap.size,0,rfl,by simp,fun j e hj=>?_⟩,⟨fun e he=>?_,fun e he=>?_⟩,fun a ha=>?_,fun j=>?_,by simp,fun e he h0=>?_⟩
 ·match j with
  | 0 =>
   simp at hj
   subst hj
   exact⟨c0,c1⟩
  | 1 =>
   simp at hj
   subst hj
   exact⟨c2,c3⟩
  | j+2=>simp at hj
 ·rcases List.mem_cons.1 he with rfl|he
  ·exact hp
  ·rw [List.mem_singleton.1 he]
   exact hq
 ·rcases List.mem_cons.1 he with rfl|he
  ·exact⟨0,rfl,Nat.zero_le _⟩
  ·rw [List.mem_singleton.1 he]
   exact⟨k,by rw [hi,hk];rfl,hk2⟩
 ·injection ha with ha
  subst ha
  refine⟨⟨_,_,hn⟩,fun hS=>?_⟩
  have:=h.lt _ hS
  simp at this
 ·have hl:=h.fit.names.len
  have hd:=del_less he
  match j with
  | 0=>exact hl
  | 1 =>
   show (putE E.names (en p 0)).length<=1000
   have:putE E.names (en p 0)=delE E.names p:=if_pos rfl
   rw [this]
   omega
  | j+2 =>
   have h1:=with_len (delE E.names p) [en q (inoN E.names p)]
   have h2:withE E.names ([en p 0,en q (inoN E.names p)].take (j+2))=withE (delE E.names p) [en q (inoN E.names p)]:=by
    have e1:[en p 0,en q (inoN E.names p)].take (j+2)=[en p 0,en q (inoN E.names p)]:=by simp
    rw [e1]
    show withE (putE E.names (en p 0)) _=_
    rw [show putE E.names (en p 0)=delE E.names p from if_pos rfl]
   rw [h2]
   have h3:[en q (inoN E.names p)].length=1:=rfl
   omega
 ·rcases List.mem_cons.1 he with rfl|he
  ·exact absurd rfl h0
  ·rw [List.mem_singleton.1 he]
   exact⟨e9,List.mem_append_right _ hlive,hi.symm⟩
theorem dreplace_any (S:Nat->Prop) (w:World) (P m:Nat) (D:Dk) (p q:List UInt8) (h:Disk S w P D) (he:NF.Env w) (hH:Hi S P) (hm:Num m D) (hm2:m<=100000) (hp:p.length<=maxLen) (hq:q.length<=maxLen) :
  Calls Tryz.prog 49 #[.pointer (some ⟨P,0,none⟩),txt p,txt q] w fun r w'=>r=.returned (.int .i64 (replaceD D p q).2)/\Does S P w.heap.size w (replaceD D p q).1 w':=by
 obtain⟨X,hX,hXd⟩:=txt_of p
 obtain⟨V,hV,hVd⟩:=txt_of q
 obtain⟨E,hE⟩:∃ E,(stepD D ⟨cReplace,p,q⟩).1=E:=⟨_,rfl⟩
 obtain⟨er,her⟩:∃ e,(stepD D ⟨cReplace,p,q⟩).2=e:=⟨_,rfl⟩
 have hnum:=step_num hm ⟨cReplace,p,q⟩
 have CS:Hid (Calls Tryz.prog 56 #[.pointer (some ⟨P,0,none⟩),.string ⟨#[82,101,112,108,97,99,101]⟩,.string X,.string V] w fun r w'=>r=.returned (.int .i64 er)/\Does S P w.heap.size w E w'):=Lib.hid (by
  have:=step_any S w P m D ⟨cReplace,p,q⟩ h he hH hm hm2
  rw [hE,her] at this
  simp only at this
  rw [hX] at this
  rw [hV] at this
  exact this)
 rw [hE] at hnum
 have HW1:Hid (er≠0->replaceD D p q=(E,er)):=Lib.hid (fun h0=>by
  unfold replaceD
  rw [after_no (by rw [her];exact h0),← hE,← her])
 have HW2:Hid (er=0->replaceD D p q=refuse (replaceE E p q) E (changeD E [en p 0,en q (inoN E.names p)])):=Lib.hid (fun h0=>by
  unfold replaceD
  rw [after_yes (by rw [her];exact h0),← hE])
 have HE:=Lib.hid he
 have HH:=Lib.hid hH
 have HN:=Lib.hid hnum
 have HX:=Lib.hid hX
 have HXd:=Lib.hid hXd
 have HPp:=Lib.hid hp
 have HV0:=Lib.hid hV
 have HVd:=Lib.hid hVd
 have HPq:=Lib.hid hq
 have hb2:E.later.length<=1099511627776/\E.inos.length<=4611686018427387904:=by
  have a1:=hnum.later
  have a2:=hnum.inos
  have hk1:m*2097152<=100000*2097152:=Nat.mul_le_mul_right _ hm2
  have hk2:m*2147483648<=100000*2147483648:=Nat.mul_le_mul_right _ hm2
  constructor<;>omega
 have HB2:=Lib.hid hb2
 obtain⟨Z,hZ⟩:∃ Z,replaceD D p q=Z:=⟨_,rfl⟩
 rw [hZ] at HW1 HW2
 rw [hZ,hX,hV]
 clear h he hH hm hE her hnum hb2 hZ hX hXd hp hV hVd hq
 go_enter Tryz.func49,Tryz.ntmps49
 repeat (first|(go_at_call 56;fail)|go_skip|go_guarded|go_step|go_upon)
 refine CS.out.mono ?_
 rintro r w1 ⟨rfl,hu1,S1,hs1,adr,x,hd1⟩
 simp only []
 have HU1:=Lib.hid hu1
 have HS1:=Lib.hid hs1
 have HD1:=Lib.hid hd1
 by_cases h0:er=0
 ·have HZ:=Lib.hid (HW2.out h0)
  obtain⟨ao,cap,hvn,_⟩:=layE_own hd1.rest.names
  obtain⟨n,hn⟩:∃ n,E.names.length=n:=⟨_,rfl⟩
  rw [hn] at hvn
  have hr:=hd1.row
  unfold diskC at hr
  rw [hvn] at hr
  obtain⟨c0,-,-,-,-,-,-,-,-,-⟩:=row9 hr
  have hpl:=(Array.getElem?_eq_some_iff.1 hr).1
  have E1:=Lib.hid (env_does HE.out hu1 HH.out)
  have HV:=Lib.hid hvn
  have HV2:=HV0
  have HNl:=Lib.hid hn
  have g0:=cell_regrown c0
  have D6:=Lib.hid (fun b e=>when_g w1 b e)
  obtain⟨b1,hb1⟩:∃ b,NP.pathL p=b:=⟨_,rfl⟩
  have D1:=Lib.hid (reg_g (w:=w1) (f:=60) (args:=#[.string X]) (v:=.bool b1) (fun W hW=>by
   have:=path_txt X p W (E1.out.below hW) HXd.out HPp.out
   rw [hb1] at this
   exact this))
  obtain⟨b3,hb3⟩:∃ b,NP.pathL q=b:=⟨_,rfl⟩
  have D3:=Lib.hid (reg_g (w:=w1) (f:=60) (args:=#[.string V]) (v:=.bool b3) (fun W hW=>by
   have:=path_txt V q W (E1.out.below hW) HVd.out HPq.out
   rw [hb3] at this
   exact this))
  obtain⟨k,hk⟩:∃ k,kindD E p=k:=⟨_,rfl⟩
  have D2:=Lib.hid (reg_g (w:=w1) (f:=57) (args:=#[.slice ao n cap,.string X]) (v:=.int .i64 k) (fun W hW=>by
   have:=kind_of (HD1.out.below hW) p HPp.out
   rw [HV.out,HX.out,hk] at this
   exact this))
  obtain⟨k2,hk2⟩:∃ k,kindD E q=k:=⟨_,rfl⟩
  have D5:=Lib.hid (reg_g (w:=w1) (f:=57) (args:=#[.slice ao n cap,.string V]) (v:=.int .i64 k2) (fun W hW=>by
   have:=kind_of (HD1.out.below hW) q HPq.out
   rw [HV.out,HV0.out,hk2] at this
   exact this))
  obtain⟨b4,hb4⟩:∃ b,upB E q=b:=⟨_,rfl⟩
  have D4:=Lib.hid (reg_g (w:=w1) (f:=62) (args:=#[.pointer (some ⟨P,0,none⟩),.string V]) (v:=.bool b4) (fun W hW=>by
   have:=up_any S1 W P E adr [] q ⟨x,HD1.out.below hW⟩ (E1.out.below hW) HPq.out
   rw [hb4,HV0.out] at this
   exact this))
  obtain⟨q0,hq0⟩:∃ b,(k==0)=b:=⟨_,rfl⟩
  obtain⟨q2,hq2⟩:∃ b,(k==2)=b:=⟨_,rfl⟩
  obtain⟨q3,hq3⟩:∃ b,(k2==2)=b:=⟨_,rfl⟩
  obtain⟨qe,hqe⟩:∃ b,(V.toList==X.toList)=b:=⟨_,rfl⟩
  obtain⟨e0,he0⟩:∃ e,replaceE E p q=e:=⟨_,rfl⟩
  have HK:=Lib.hid hk
  have HEq:Hid (firstE [whenE (!b1||!b3) 11,whenE qe 2,whenE q0 74,whenE (q2||q3) 73,whenE (!b4) 62]=e0):=Lib.hid (by
   rw [<- he0]
   unfold replaceE
   rw [hb1,hb3,hb4,HK.out,hk2,← hq0,← hq2,← hq3,← hqe]
   have z0:decide (k=0)=(k==0):=by by_cases h:k=0<;>simp [h]
   have z2:decide (k=2)=(k==2):=by by_cases h:k=2<;>simp [h]
   have z3:decide (k2=2)=(k2==2):=by by_cases h:k2=2<;>simp [h]
   have z4:decide (q=p)=(V.toList==X.toList):=by
    rw [Lib.toList_data,Lib.toList_data,HVd.out,HXd.out]
    by_cases h:q=p<;>simp [h]
   rw [z0,z2,z3,z4])
  have HFacts:Hid (e0=0->NP.pathL p=true/\NP.pathL q=true/\kindD E p≠0):=Lib.hid (fun hz=>by
   have h1:=HEq.out
   rw [hz] at h1
   obtain⟨z1,h1⟩:=first_cons h1
   obtain⟨_,h1⟩:=first_cons h1
   obtain⟨z2,h1⟩:=first_cons h1
   have y1:=when_zero z1 (by omega)
   have y2:=when_zero z2 (by omega)
   rw [hb1,hb3,hk]
   rw [<- hq0] at y2
   simp at y1 y2
   exact⟨y1.1,y1.2,y2⟩)
  have HE0:=Lib.hid he0
  subst h0
  clear hu1 hs1 hd1 hvn hn hr hk hk2 hb1 hb3 hb4 he0 c0
  cases b1<;>cases q2
  all_goals
   repeat (first|go_skip|go_guarded|go_step|go_upon)
   with_reducible refine QT.region_tail 43 (by kernel_rfl) (by kernel_rfl) ?_
   simp only [List.take_succ_cons,List.take_zero,List.drop_succ_cons,List.drop_zero]
   repeat (go_big_quiet_step (first|(go_at_call 60;with_reducible exact D1.out _ _)|(go_at_call 60;with_reducible exact D3.out _ _)|(go_at_call 57;with_reducible exact D2.out _ _)|(go_at_call 57;with_reducible exact D5.out _ _)|(go_at_call 62;with_reducible exact D4.out _ _)|(go_at_call 59;with_reducible exact D6.out _ _ _ _)))
   refine wpQuiet_nil ?_
   intro _ hw'
   obtain⟨⟨dq,osq⟩,hw''⟩:=hw'
   subst hw''
   have B5:=Lib.hid (below_regrown w1 dq osq)
   clear g0
   generalize Go.Sort.grow (redrawn w1 dq) osq=w5 at B5 ⊢
   repeat (first|(go_at_call 58;fail)|go_skip|go_guarded|go_step|go_upon)
   refine (first5 _ _ _ _ _ _ _ _ (heap_alloc_new w5 _)).mono ?_
   rintro r w7 ⟨hr6,hw7⟩
   have hr7:=hr6.trans (congrArg (fun z=>Ending.returned (.int .i64 z)) HEq.out)
   subst hr7
   clear hr6
   simp only []
   have B7:Hid (Below w1.heap.size w1 w7):=Lib.hid (hw7 ▸ B5.out.alloc B5.out.size _)
   clear hw7
   by_cases he0:e0=0
   ·subst he0
    have HFa:=Lib.hid (HFacts.out rfl)
    have HZ2:Hid (Z=(changeD E [en p 0,en q (inoN E.names p)],0)):=Lib.hid (by rw [HZ.out,HE0.out];rfl)
    have D7:=Lib.hid (HD1.out.below B7.out)
    have hr7:=D7.out.row
    unfold diskC at hr7
    rw [HV.out] at hr7
    obtain⟨k0,-,-,-,-,k5,-,-,-,-⟩:=row9 hr7
    obtain⟨e9,he9,hm9,h09,hino9,_⟩:=kindD_ino (path_ne HFa.out.1) HD1.out.fit HFa.out.2.2
    have HF9:=Lib.hid he9
    obtain⟨gg,hgg⟩:∃ g,adr e9.kind=g:=⟨_,rfl⟩
    have HGg:=Lib.hid hgg
    have CA:Hid (Calls Tryz.prog 65 #[.slice ao n cap,.string X] w7 fun r w'=>r=.returned (.pointer (some ⟨gg,0,none⟩))/\Below w7.heap.size w7 w'):=Lib.hid (by
     have:=at_there D7.out p HPp.out (path_ne HFa.out.1) HF9.out h09
     rw [HV.out,HX.out,hgg] at this
     exact this)
    have HI9:=Lib.hid hino9
    have HM9:=Lib.hid hm9
    clear hr7 he9 hgg hino9 hm9
    repeat (first|(go_at_call 65;fail)|go_skip|go_guarded|go_step|go_upon)
    refine CA.out.mono ?_
    rintro r w8 ⟨rfl,hb8⟩
    simp only []
    have B8:=Lib.hid (Below.trans B7.out (hb8.mono B7.out.size))
    have D8:=Lib.hid (HD1.out.below B8.out)
    clear hb8
    have HCh:Hid (ChgIn S1 (w8.alloc (.cells #[.string X,.pointer none,.string V,.pointer (some ⟨gg,0,none⟩)] 125)) E adr [] (some ⟨w8.heap.size,0,none⟩) [en p 0,en q (inoN E.names p)]):=Lib.hid (chg_replace D8.out rfl HX.out HV2.out (by rw [HI9.out,ptr_pos adr h09,HGg.out]) HFa.out.1 HFa.out.2.1 HF9.out HI9.out)
    repeat (first|(go_at_call 64;fail)|go_skip|go_guarded|go_step|go_upon)
    refine (change_any S1 _ P E adr [] _ 2 [en p 0,en q (inoN E.names p)] ⟨x,D8.out.below ((Below.refl _ _).alloc (Nat.le_refl _) _)⟩ HCh.out HB2.out.1).mono ?_
    rintro r w9 ⟨rfl,⟨S9,hs9,hd9⟩,hu9⟩
    simp only []
    have HU9:=Lib.hid hu9
    have HS9:=Lib.hid hs9
    have HD9:=Lib.hid hd9
    clear hu9 hs9 hd9
    repeat (first|go_skip|go_guarded|go_step|go_upon)
    go_ret
    rw [HZ2.out]
    have hz8:=B8.out.size
    refine⟨rfl,does_then HU1.out HS1.out ((((Out.refl _ w1).thenBelow B8.out).alloc _).then HU9.out (fun j hj hT=>hT.imp (·.1) id)) (fun k hk=>?_) ⟨adr,HD9.out⟩⟩
    have hz10:(w8.alloc (.cells #[.string X,.pointer none,.string V,.pointer (some ⟨gg,0,none⟩)] 125)).heap.size=w8.heap.size+1:=by simp
    rcases HS9.out k hk with h4|⟨a,h4,h5⟩|h4
    ·exact .inl h4
    ·injection h4 with h4
     subst h4
     exact .inr (by simp only at h5;omega)
    ·exact .inr (by omega)
   ·have hez:(e0 != 0)=true:=by simpa using he0
    have hez2:(e0==0)=false:=by simpa using he0
    have HZ2:Hid (Z=(E,e0)):=Lib.hid (by rw [HZ.out,HE0.out];unfold refuse;rw [if_neg he0])
    clear he0
    repeat (first|go_skip|go_guarded|go_step|go_upon)
    go_ret
    rw [HZ2.out]
    exact⟨rfl,does_below HU1.out HS1.out ⟨adr,x,HD1.out⟩ B7.out⟩
 ·have HZ:=Lib.hid (HW1.out h0)
  have hez:(er != 0)=true:=by simpa using h0
  have hez2:(er==0)=false:=by simpa using h0
  clear hu1 hs1 hd1 h0
  repeat (first|go_skip|go_guarded|go_step|go_upon)
  go_ret
  rw [HZ.out]
  exact⟨rfl,HU1.out,S1,HS1.out,adr,x,HD1.out⟩
end DG
end Go.Proofs.YtmohjalanhnhbaaGreatDoor
end

section
namespace Go.Proofs.YtmohjalanhnhbaaGreatDoor
open Go.RowKit Go.Lib Go.BigFrame
namespace DG
open OM TP TM DP DM TG TR FP
end DG
end Go.Proofs.YtmohjalanhnhbaaGreatDoor
end

section
namespace Go.Proofs.YtmohjalanhnhbaaGreatDoor
open Go.RowKit Go.Lib Go.BigFrame
namespace DG
open OM TP TM DP DM TG TR FP
theorem get_done {S S1:Nat->Prop} {P:Nat} {w w0 w1 w8 w9:World} {E:Dk} {adr:Int->Nat} {x:Parts} (hP:P<w.heap.size) (hS:∀ k,S k->k<w.heap.size) (hb0:Below w.heap.size w w0) (hz0:w.heap.size+2<=w0.heap.size)
  (hu1:Out (fun k=>S k∨k=P) w0 w1) (hs1:∀ k,S1 k->S k∨w0.heap.size<=k) (hd1:DiskX S1 w1 P E adr [] x) (hb8:Below w1.heap.size w1 w8) (hs9:w8.heap.size<=w9.heap.size) (ho9:Out (fun k=>k=w.heap.size∨k=w.heap.size+1) w8 w9):Does S P w.heap.size w E w9:=by
 have hz1:=hu1.size
 have hz8:=hb8.size
 refine⟨?_,S1,fun k hk=>(hs1 k hk).imp id (fun h=>by omega),adr,x,(hd1.below hb8).keep hs9 (ho9.block P (by omega) (fun h=>by omega)) (fun k hk=>ho9.block k (Nat.lt_of_lt_of_le (hd1.lt k hk) hz8) (fun h=>?_))⟩
 ·have u1:=(((Out.refl (fun k=>S k∨k=P) w).thenBelow hb0).then hu1 (fun j _ h=>h)).thenBelow hb8
  exact u1.then ho9 (fun j hj h=>by omega)
 ·rcases hs1 k hk with h1|h1
  ·have:=hS k h1;omega
  ·omega
theorem out7 (w:World) (n:Nat) (a b c d e f g:Value):Out (fun k=>k=n∨k=n+1) w (((((((w.setCell ⟨n,0,none⟩ a).setCell ⟨n,1,none⟩ b).setCell ⟨n,2,none⟩ c).setCell ⟨n,3,none⟩ d).setCell ⟨n+1,0,none⟩ e).setCell ⟨n+1,1,none⟩ f).setCell ⟨n+1,2,none⟩ g) :=
 (((((((Out.refl _ w).setCell (p:=⟨n,0,none⟩) (fun _=>.inl rfl) _).setCell (p:=⟨n,1,none⟩) (fun _=>.inl rfl) _).setCell (p:=⟨n,2,none⟩) (fun _=>.inl rfl) _).setCell (p:=⟨n,3,none⟩) (fun _=>.inl rfl) _).setCell (p:=⟨n+1,0,none⟩) (fun _=>.inr rfl) _).setCell (p:=⟨n+1,1,none⟩) (fun _=>.inr rfl) _).setCell (p:=⟨n+1,2,none⟩) (fun _=>.inr rfl) _
theorem at_got {S:Nat->Prop} {w:World} {P:Nat} {D:Dk} {adr:Int->Nat} {pend:List Nd} {x:Parts} (h:DiskX S w P D adr pend x) (p:List UInt8) (hp:p.length<=maxLen) (hk:kindD D p≠0) :
  Calls Tryz.prog 65 #[x.vn,txt p] w fun r w'=>(∃ (g:Nat) (k:Int) (i:Ino),r=.returned (.pointer (some ⟨g,0,none⟩))/\InoAt w' g k i/\gotN D p=⟨p,i.kind,i.data,i.mode⟩/\gotS D p=⟨k,i.data.length,i.time⟩)/\Below w.heap.size w w':=by
 refine (at_of h p hp).mono ?_
 rintro r w' ⟨h1,hb⟩
 refine⟨?_,hb⟩
 by_cases h0:p=[]
 ·rw [if_pos h0] at h1
  subst h0
  exact⟨_,0,_,h1.1,h1.2,rfl,rfl⟩
 ·rw [if_neg h0] at h1
  obtain⟨e,he,hm,hk0,hi,_⟩:=kindD_ino h0 h.fit hk
  rw [hi,ptr_pos adr hk0] at h1
  have hl:e∈pend++liveL D:=List.mem_append_right _ (by unfold liveL;exact List.mem_append_left _ hm)
  refine⟨_,e.kind,inoOf D.inos e.kind,h1,inoAt_below (h.rest.inos e hl hk0) hb,?_,?_⟩
  ·unfold gotN
   rw [if_neg h0,he]
   rfl
  ·unfold gotS
   rw [if_neg h0,he]
theorem dget_any (S:Nat->Prop) (w:World) (P m:Nat) (D:Dk) (p:List UInt8) (h:Disk S w P D) (he:NF.Env w) (hH:Hi S P) (hm:Num m D) (hm2:m<=100000) (hp:p.length<=maxLen) :
  Calls Tryz.prog 74 #[.pointer (some ⟨P,0,none⟩),txt p] w fun r w'=>r=.returned (.tuple #[ndVal (getD D p).2.1,stampVal (getD D p).2.2.1,.int .i64 (getD D p).2.2.2])/\Does S P w.heap.size w (getD D p).1 w':=by
 obtain⟨X,hX,hXd⟩:=txt_of p
 obtain⟨E,hE⟩:∃ E,(stepD D ⟨cGet,p,[]⟩).1=E:=⟨_,rfl⟩
 obtain⟨er,her⟩:∃ e,(stepD D ⟨cGet,p,[]⟩).2=e:=⟨_,rfl⟩
 obtain⟨adr0,x0,h0⟩:=h
 have B0:Hid (Below w.heap.size w ((w.alloc (.cells #[.string ⟨#[]⟩,.int .i64 0,.string ⟨#[]⟩,.int .i64 0] 45)).alloc (.cells #[.int .i64 0,.int .i64 0,.int .i64 0] 47))):=Lib.hid (((Below.refl _ _).alloc (Nat.le_refl _) _).alloc (by simp) _)
 have RN:Hid (((w.alloc (.cells #[.string ⟨#[]⟩,.int .i64 0,.string ⟨#[]⟩,.int .i64 0] 45)).alloc (.cells #[.int .i64 0,.int .i64 0,.int .i64 0] 47)).heap[w.heap.size]?=some (.cells #[.string ⟨#[]⟩,.int .i64 0,.string ⟨#[]⟩,.int .i64 0] 45 (0,0))):=Lib.hid ((Below.heap_alloc _ _ _ (by simp)).trans (heap_alloc_new w _))
 have RS:Hid (((w.alloc (.cells #[.string ⟨#[]⟩,.int .i64 0,.string ⟨#[]⟩,.int .i64 0] 45)).alloc (.cells #[.int .i64 0,.int .i64 0,.int .i64 0] 47)).heap[w.heap.size+1]?=some (.cells #[.int .i64 0,.int .i64 0,.int .i64 0] 47 (0,0))):=Lib.hid (by
  have:=heap_alloc_new (w.alloc (.cells #[.string ⟨#[]⟩,.int .i64 0,.string ⟨#[]⟩,.int .i64 0] 45)) (.cells #[.int .i64 0,.int .i64 0,.int .i64 0] 47)
  simpa using this)
 have HZ0:Hid (w.heap.size+2<=((w.alloc (.cells #[.string ⟨#[]⟩,.int .i64 0,.string ⟨#[]⟩,.int .i64 0] 45)).alloc (.cells #[.int .i64 0,.int .i64 0,.int .i64 0] 47)).heap.size):=Lib.hid (by simp)
 have CS:Hid (Calls Tryz.prog 56 #[.pointer (some ⟨P,0,none⟩),.string ⟨#[71,101,116]⟩,.string X,.string ⟨#[]⟩] ((w.alloc (.cells #[.string ⟨#[]⟩,.int .i64 0,.string ⟨#[]⟩,.int .i64 0] 45)).alloc (.cells #[.int .i64 0,.int .i64 0,.int .i64 0] 47)) fun r w'=>r=.returned (.int .i64 er)/\Does S P ((w.alloc (.cells #[.string ⟨#[]⟩,.int .i64 0,.string ⟨#[]⟩,.int .i64 0] 45)).alloc (.cells #[.int .i64 0,.int .i64 0,.int .i64 0] 47)).heap.size ((w.alloc (.cells #[.string ⟨#[]⟩,.int .i64 0,.string ⟨#[]⟩,.int .i64 0] 45)).alloc (.cells #[.int .i64 0,.int .i64 0,.int .i64 0] 47)) E w'):=Lib.hid (by
  have:=step_any S _ P m D ⟨cGet,p,[]⟩ ⟨adr0,x0,h0.below B0.out⟩ (he.below B0.out) hH hm hm2
  rw [hE,her] at this
  simp only at this
  rw [hX] at this
  exact this)
 have HPl:Hid (P<w.heap.size):=Lib.hid (Array.getElem?_eq_some_iff.1 h0.row).1
 have HSl:Hid (∀ k,S k->k<w.heap.size):=Lib.hid h0.lt
 have E0:=Lib.hid (he.below B0.out)
 have HW1:Hid (er≠0->getD D p=(E,(nodeZ,stampZ,er))):=Lib.hid (fun hz=>by
  unfold getD
  rw [after_no (by rw [her];exact hz)]
  simp only
  rw [if_neg (by rw [her];exact hz),hE,her])
 have HW2:Hid (er=0->missE E p≠0->getD D p=(E,(nodeZ,stampZ,missE E p))):=Lib.hid (fun hz hz2=>by
  unfold getD
  rw [after_yes (by rw [her];exact hz),hE]
  unfold refuse
  rw [if_neg hz2]
  simp only
  rw [if_neg hz2])
 have HW3:Hid (er=0->missE E p=0->getD D p=(E,(gotN E p,gotS E p,0))):=Lib.hid (fun hz hz2=>by
  unfold getD
  rw [after_yes (by rw [her];exact hz),hE]
  unfold refuse
  rw [if_pos hz2]
  simp)
 have HH:=Lib.hid hH
 have HX:=Lib.hid hX
 have HXd:=Lib.hid hXd
 have HP:=Lib.hid hp
 obtain⟨Z,hZ⟩:∃ Z,getD D p=Z:=⟨_,rfl⟩
 rw [hZ] at HW1 HW2 HW3
 rw [hZ,hX]
 obtain⟨w0,hw0⟩:∃ W,((w.alloc (.cells #[.string ⟨#[]⟩,.int .i64 0,.string ⟨#[]⟩,.int .i64 0] 45)).alloc (.cells #[.int .i64 0,.int .i64 0,.int .i64 0] 47))=W:=⟨_,rfl⟩
 rw [hw0] at B0 RN RS HZ0 CS E0
 clear h0 he hH hm hE her hX hXd hp hZ
 go_enter Tryz.func74,Tryz.ntmps74
 repeat (first|(go_at_call 56;fail)|go_skip|go_guarded|go_step|go_upon)
 try rw [hw0]
 clear hw0
 refine CS.out.mono ?_
 rintro r w1 ⟨rfl,hu1,S1,hs1,adr,x,hd1⟩
 simp only []
 have HU1:=Lib.hid hu1
 have HS1:=Lib.hid hs1
 have HD1:=Lib.hid hd1
 have E1:=Lib.hid (env_does E0.out hu1 HH.out)
 have hz0:=HZ0.out
 have RN1:=Lib.hid ((hu1.block w.heap.size (by omega) (fun h=>by
  rcases h with h|h
  ·have:=HSl.out _ h;omega
  ·have:=HPl.out;omega)).trans RN.out)
 have RS1:=Lib.hid ((hu1.block (w.heap.size+1) (by omega) (fun h=>by
  rcases h with h|h
  ·have:=HSl.out _ h;omega
  ·have:=HPl.out;omega)).trans RS.out)
 have FIN:Hid (∀ w8 w9,Below w1.heap.size w1 w8->w8.heap.size<=w9.heap.size->Out (fun k=>k=w.heap.size∨k=w.heap.size+1) w8 w9->Does S P w.heap.size w E w9):=Lib.hid (fun w8 w9 h1 h2 h3=>get_done HPl.out HSl.out B0.out HZ0.out HU1.out HS1.out HD1.out h1 h2 h3)
 by_cases h0:er=0
 ·have CM:=Lib.hid (missing_any S1 w1 P E adr [] p ⟨x,hd1⟩ E1.out HP.out)
  obtain⟨e0,he0⟩:∃ e,missE E p=e:=⟨_,rfl⟩
  have HE0:=Lib.hid he0
  rw [he0,HX.out] at CM
  subst h0
  clear hu1 hs1 he0
  repeat (first|(go_at_call 129;fail)|go_skip|go_guarded|go_step|go_upon)
  refine CM.out.mono ?_
  rintro r w2 ⟨rfl,hb2⟩
  simp only []
  have B2:=Lib.hid hb2
  by_cases he0:e0=0
  ·have HZ:=Lib.hid (HW3.out rfl (HE0.out.trans he0))
   subst he0
   have hkd:kindD E p≠0:=by
    have h1:=HE0.out
    unfold missE at h1
    obtain⟨_,h1⟩:=first_cons h1
    obtain⟨z2,_⟩:=first_cons h1
    have y2:=when_zero z2 (by omega)
    simpa using y2
   obtain⟨ao,cap,hvn,_⟩:=layE_own hd1.rest.names
   obtain⟨n,hn⟩:∃ n,E.names.length=n:=⟨_,rfl⟩
   rw [hn] at hvn
   have hr2:=(hd1.below hb2).row
   unfold diskC at hr2
   rw [hvn] at hr2
   obtain⟨k0,-,-,-,-,-,-,-,-,-⟩:=row9 hr2
   have CA:=Lib.hid (at_got (hd1.below hb2) p HP.out hkd)
   rw [hvn,HX.out] at CA
   clear hvn hn hr2 hb2 hd1 hkd
   repeat (first|(go_at_call 65;fail)|go_skip|go_guarded|go_step|go_upon)
   refine CA.out.mono ?_
   rintro r w3 ⟨⟨g,k,i,rfl,hi,hgn,hgs⟩,hb3⟩
   simp only []
   have B3:=Lib.hid (Below.trans B2.out (hb3.mono B2.out.size))
   have HGn:=Lib.hid hgn
   have HGs:=Lib.hid hgs
   obtain⟨Y9,hY9,_⟩:=txt_of i.data
   have CN:Hid (Calls Tryz.prog 127 #[.pointer (some ⟨g,0,none⟩),.string X] w3 fun r w'=>r=.returned (.agg #[.string X,.int .i64 i.kind,.string Y9,.int .i64 i.mode])/\Below w3.heap.size w3 w'):=Lib.hid (by
    have:=node_any g k i p w3 hi
    unfold ndVal at this
    simp only at this
    rw [HX.out,hY9] at this
    exact this)
   have CT:Hid (∀ W,Below w3.heap.size w3 W->Calls Tryz.prog 130 #[.pointer (some ⟨g,0,none⟩)] W fun r w'=>r=.returned (.agg #[.int .i64 k,.int .i64 i.data.length,.int .i64 i.time])/\Below W.heap.size W w'):=Lib.hid (fun W hW=>stamp_any g k i W (inoAt_below hi hW))
   have HY9:=Lib.hid hY9
   obtain⟨kk,hkk⟩:∃ z,i.kind=z:=⟨_,rfl⟩
   obtain⟨km,hkm⟩:∃ z,i.mode=z:=⟨_,rfl⟩
   obtain⟨kl,hkl⟩:∃ z,i.data.length=z:=⟨_,rfl⟩
   obtain⟨kt,hkt⟩:∃ z,i.time=z:=⟨_,rfl⟩
   rw [hkk,hkm] at CN
   rw [hkl,hkt] at CT
   have HKK:=Lib.hid hkk
   have HKM:=Lib.hid hkm
   have HKL:=Lib.hid hkl
   have HKT:=Lib.hid hkt
   clear hi hgn hgs hb3 hY9 hkk hkm hkl hkt k0
   repeat (first|(go_at_call 127;fail)|go_skip|go_guarded|go_step|go_upon)
   refine CN.out.mono ?_
   rintro r w4 ⟨rfl,hb4⟩
   simp only []
   repeat (first|(go_at_call 130;fail)|go_skip|go_guarded|go_step|go_upon)
   refine (CT.out w4 hb4).mono ?_
   rintro r w5 ⟨rfl,hb5⟩
   simp only []
   have B5:=Lib.hid (Below.trans B3.out ((Below.trans hb4 (hb5.mono hb4.size)).mono B3.out.size))
   have rn:=(B5.out.block _ (Array.getElem?_eq_some_iff.1 RN1.out).1).trans RN1.out
   have rs:=(B5.out.block _ (Array.getElem?_eq_some_iff.1 RS1.out).1).trans RS1.out
   obtain⟨t0,t1,t2,t3,tf⟩:=row4 rn
   obtain⟨s0,s1,s2,sf⟩:=row3 rs
   clear rn rs hb4 hb5
   repeat (first|go_skip|go_guarded|go_step|go_upon)
   refine bodyPost_ret (v:=.tuple #[.agg #[.string X,.int .i64 kk,.string Y9,.int .i64 km],.agg #[.int .i64 k,.int .i64 kl,.int .i64 kt],.int .i64 0]) ?_ rfl ⟨?_,?_⟩
   ·rw [results_cell2 rfl]
    go_simp
   ·rw [HZ.out]
    simp only
    rw [HGn.out,HGs.out]
    unfold ndVal stampVal
    simp only
    rw [HX.out,HY9.out,HKK.out,HKM.out,HKL.out,HKT.out]
   ·rw [HZ.out]
    exact FIN.out _ _ B5.out (by simp [set_size]) (out7 _ _ _ _ _ _ _ _ _)
  ·have hez:(e0 != 0)=true:=by simpa using he0
   have HZ:=Lib.hid (HW2.out rfl (by rw [HE0.out];exact he0))
   have rn:=(hb2.block _ (Array.getElem?_eq_some_iff.1 RN1.out).1).trans RN1.out
   have rs:=(hb2.block _ (Array.getElem?_eq_some_iff.1 RS1.out).1).trans RS1.out
   obtain⟨t0,t1,t2,t3,tf⟩:=row4 rn
   obtain⟨s0,s1,s2,sf⟩:=row3 rs
   clear he0 hb2 rn rs hd1
   repeat (first|go_skip|go_guarded|go_step|go_upon)
   refine bodyPost_ret (v:=.tuple #[.agg #[.string ⟨#[]⟩,.int .i64 0,.string ⟨#[]⟩,.int .i64 0],.agg #[.int .i64 0,.int .i64 0,.int .i64 0],.int .i64 e0]) ?_ rfl ⟨?_,?_⟩
   ·rw [results_cell2 rfl]
    go_simp
   ·rw [HZ.out,HE0.out]
    rfl
   ·rw [HZ.out]
    exact FIN.out _ _ B2.out (by simp [set_size]) (out7 _ _ _ _ _ _ _ _ _)
 ·have HZ:=Lib.hid (HW1.out h0)
  have hez:(er != 0)=true:=by simpa using h0
  have hez2:(er==0)=false:=by simpa using h0
  obtain⟨t0,t1,t2,t3,tf⟩:=row4 RN1.out
  obtain⟨s0,s1,s2,sf⟩:=row3 RS1.out
  clear hu1 hs1 hd1 h0
  repeat (first|go_skip|go_guarded|go_step|go_upon)
  refine bodyPost_ret (v:=.tuple #[.agg #[.string ⟨#[]⟩,.int .i64 0,.string ⟨#[]⟩,.int .i64 0],.agg #[.int .i64 0,.int .i64 0,.int .i64 0],.int .i64 er]) ?_ rfl ⟨?_,?_⟩
  ·rw [results_cell2 rfl]
   go_simp
  ·rw [HZ.out]
   rfl
  ·rw [HZ.out]
   exact FIN.out _ _ (Below.refl _ _) (by simp [set_size]) (out7 _ _ _ _ _ _ _ _ _)
end DG
end Go.Proofs.YtmohjalanhnhbaaGreatDoor
end

section
namespace Go.Proofs.YtmohjalanhnhbaaGreatDoor
open Go.RowKit Go.Lib Go.BigFrame
namespace DG
open OM TP TM DP DM TG TR FP
theorem chg_remove {S1:Nat->Prop} {W:World} {P:Nat} {E:Dk} {adr:Int->Nat} {x:Parts} {p:List UInt8} {a:Value} {g:Nat} (h:DiskX S1 W P E adr [] x) (hg:g=W.heap.size) (ha:txt p=a) (hp:NP.pathL p=true) :
  ChgIn S1 (W.alloc (.cells #[a,.pointer none] 125)) E adr [] (some ⟨g,0,none⟩) [en p 0]:=by
 subst hg ha
 have hn:=heap_alloc_new W (.cells #[txt p,.pointer none] 125)
 obtain⟨c0,c1,_⟩:=row2 hn
 refine⟨fun _=>⟨W.heap.size,0,rfl,by simp,fun j e hj=>?_⟩,⟨fun e he=>?_,fun e he=>?_⟩,fun a ha=>?_,fun j=>?_,by simp,fun e he h0=>?_⟩
 ·match j with
  | 0 =>
   simp at hj
   subst hj
   exact⟨c0,c1⟩
  | j+1=>simp at hj
 ·rw [List.mem_singleton.1 he]
  exact hp
 ·rw [List.mem_singleton.1 he]
  exact⟨0,rfl,Nat.zero_le _⟩
 ·injection ha with ha
  subst ha
  refine⟨⟨_,_,hn⟩,fun hS=>?_⟩
  have:=h.lt _ hS
  simp at this
 ·have h1:=with_out_len E.names ([en p 0].take j) (fun e he=>by rw [List.mem_singleton.1 (List.mem_of_mem_take he)];rfl)
  have:=h.fit.names.len
  omega
 ·rw [List.mem_singleton.1 he] at h0
  exact absurd rfl h0
theorem dremove_any (S:Nat->Prop) (w:World) (P m:Nat) (D:Dk) (p:List UInt8) (h:Disk S w P D) (he:NF.Env w) (hH:Hi S P) (hm:Num m D) (hm2:m<=100000) (hp:p.length<=maxLen) :
  Calls Tryz.prog 47 #[.pointer (some ⟨P,0,none⟩),txt p] w fun r w'=>r=.returned (.int .i64 (removeD D p).2)/\Does S P w.heap.size w (removeD D p).1 w':=by
 obtain⟨X,hX,hXd⟩:=txt_of p
 obtain⟨E,hE⟩:∃ E,(stepD D ⟨cRemove,p,[]⟩).1=E:=⟨_,rfl⟩
 obtain⟨er,her⟩:∃ e,(stepD D ⟨cRemove,p,[]⟩).2=e:=⟨_,rfl⟩
 have hnum:=step_num hm ⟨cRemove,p,[]⟩
 have CS:Hid (Calls Tryz.prog 56 #[.pointer (some ⟨P,0,none⟩),.string ⟨#[82,101,109,111,118,101]⟩,.string X,.string ⟨#[]⟩] w fun r w'=>r=.returned (.int .i64 er)/\Does S P w.heap.size w E w'):=Lib.hid (by
  have:=step_any S w P m D ⟨cRemove,p,[]⟩ h he hH hm hm2
  rw [hE,her] at this
  simp only at this
  rw [hX] at this
  exact this)
 rw [hE] at hnum
 have HW1:Hid (er≠0->removeD D p=(E,er)):=Lib.hid (fun h0=>by
  unfold removeD
  rw [after_no (by rw [her];exact h0),← hE,← her])
 have HW2:Hid (er=0->removeD D p=refuse (removeE E p) E (changeD E [en p 0])):=Lib.hid (fun h0=>by
  unfold removeD
  rw [after_yes (by rw [her];exact h0),← hE])
 have HE:=Lib.hid he
 have HH:=Lib.hid hH
 have HN:=Lib.hid hnum
 have HX:=Lib.hid hX
 have HXd:=Lib.hid hXd
 have HPp:=Lib.hid hp
 have hb2:E.later.length<=1099511627776/\E.inos.length<=4611686018427387904:=by
  have a1:=hnum.later
  have a2:=hnum.inos
  have hk1:m*2097152<=100000*2097152:=Nat.mul_le_mul_right _ hm2
  have hk2:m*2147483648<=100000*2147483648:=Nat.mul_le_mul_right _ hm2
  constructor<;>omega
 have HB2:=Lib.hid hb2
 obtain⟨Z,hZ⟩:∃ Z,removeD D p=Z:=⟨_,rfl⟩
 rw [hZ] at HW1 HW2
 rw [hZ,hX]
 clear h he hH hm hE her hnum hb2 hZ hX hXd hp
 go_enter Tryz.func47,Tryz.ntmps47
 repeat (first|(go_at_call 56;fail)|go_skip|go_guarded|go_step|go_upon)
 refine CS.out.mono ?_
 rintro r w1 ⟨rfl,hu1,S1,hs1,adr,x,hd1⟩
 simp only []
 have HU1:=Lib.hid hu1
 have HS1:=Lib.hid hs1
 have HD1:=Lib.hid hd1
 by_cases h0:er=0
 ·have HZ:=Lib.hid (HW2.out h0)
  obtain⟨ao,cap,hvn,_⟩:=layE_own hd1.rest.names
  obtain⟨n,hn⟩:∃ n,E.names.length=n:=⟨_,rfl⟩
  rw [hn] at hvn
  have hr:=hd1.row
  unfold diskC at hr
  rw [hvn] at hr
  obtain⟨c0,-,-,-,-,-,-,-,-,-⟩:=row9 hr
  have hpl:=(Array.getElem?_eq_some_iff.1 hr).1
  have E1:=Lib.hid (env_does HE.out hu1 HH.out)
  have HV:=Lib.hid hvn
  have HNl:=Lib.hid hn
  have g0:=cell_regrown c0
  have D6:=Lib.hid (fun b e=>when_g w1 b e)
  obtain⟨b1,hb1⟩:∃ b,NP.pathL p=b:=⟨_,rfl⟩
  have D1:=Lib.hid (reg_g (w:=w1) (f:=60) (args:=#[.string X]) (v:=.bool b1) (fun W hW=>by
   have:=path_txt X p W (E1.out.below hW) HXd.out HPp.out
   rw [hb1] at this
   exact this))
  obtain⟨k,hk⟩:∃ k,kindD E p=k:=⟨_,rfl⟩
  have D2:=Lib.hid (reg_g (w:=w1) (f:=57) (args:=#[.slice ao n cap,.string X]) (v:=.int .i64 k) (fun W hW=>by
   have:=kind_of (HD1.out.below hW) p HPp.out
   rw [HV.out,HX.out,hk] at this
   exact this))
  obtain⟨j,hj⟩:∃ j,(inE E.names p).length=j:=⟨_,rfl⟩
  have CW:Hid (∀ W,Below w1.heap.size w1 W->Calls Tryz.prog 108 #[.slice ao n cap,.string X] W fun r w'=>∃ ai ci,r=.returned (.slice ai j ci)/\Below W.heap.size W w'):=Lib.hid (fun W hW=>by
   obtain⟨ao',cap',hvn',hlay',hcap',_⟩:=layE_own (HD1.out.below hW).rest.names
   have:=dwithin_any adr ao' cap' E.names p W (E1.out.below hW) hlay' HD1.out.fit.names hcap' HPp.out
   rw [<- hvn',HV.out,HX.out] at this
   refine this.mono ?_
   rintro r w' ⟨a,c,rfl,_,hb⟩
   exact⟨a,c,by rw [hj],hb⟩)
  obtain⟨q0,hq0⟩:∃ b,(k==0)=b:=⟨_,rfl⟩
  obtain⟨e0,he0⟩:∃ e,removeE E p=e:=⟨_,rfl⟩
  have HK:=Lib.hid hk
  obtain⟨qj,hqj⟩:∃ b,decide ((1:Int)<(j:Int))=b:=⟨_,rfl⟩
  have HEq:Hid (firstE [whenE (!b1) 11,whenE q0 74,whenE qj 72]=e0):=Lib.hid (by
   rw [<- he0]
   unfold removeE
   rw [hb1,HK.out,← hq0,hj,← hqj]
   have z2:decide (k=0)=(k==0):=by by_cases h:k=0<;>simp [h]
   have z3:decide (1<j)=decide ((1:Int)<(j:Int)):=by
    by_cases h:1<j
    ·rw [decide_eq_true h,decide_eq_true (by omega)]
    ·rw [decide_eq_false h,decide_eq_false (by omega)]
   rw [z2,z3])
  have HFacts:Hid (e0=0->NP.pathL p=true):=Lib.hid (fun hz=>by
   have h1:=HEq.out
   rw [hz] at h1
   obtain⟨z1,h1⟩:=first_cons h1
   have y1:=when_zero z1 (by omega)
   rw [hb1]
   simpa using y1)
  have HE0:=Lib.hid he0
  subst h0
  clear hu1 hs1 hd1 hvn hn hr hk hb1 he0 c0 hj
  cases qj
  all_goals
   first
    | (have hjz:¬ (1:Int)<(j:Int):=of_decide_eq_false hqj)
    | (have hjz:(1:Int)<(j:Int):=of_decide_eq_true hqj)
   repeat (first|go_skip|go_guarded|go_step|go_upon)
   with_reducible refine QT.region_tail 17 (by kernel_rfl) (by kernel_rfl) ?_
   simp only [List.take_succ_cons,List.take_zero,List.drop_succ_cons,List.drop_zero]
   repeat (go_big_quiet_step (first|(go_at_call 60;with_reducible exact D1.out _ _)|(go_at_call 57;with_reducible exact D2.out _ _)|(go_at_call 59;with_reducible exact D6.out _ _ _ _)))
   refine wpQuiet_nil ?_
   intro _ hw'
   obtain⟨⟨dq,osq⟩,hw''⟩:=hw'
   subst hw''
   have B5:=Lib.hid (below_regrown w1 dq osq)
   clear g0
   generalize Go.Sort.grow (redrawn w1 dq) osq=w5 at B5 ⊢
   repeat (first|(go_at_call 108;fail)|go_skip|go_guarded|go_step|go_upon)
   refine (CW.out w5 B5.out).mono ?_
   rintro r w6 ⟨ai,ci,rfl,hb6⟩
   simp only []
   have B6:=Lib.hid (Below.trans B5.out (hb6.mono B5.out.size))
   clear hb6
   repeat (first|(go_at_call 59;refine (when_any _ _ _).mono ?_;rintro r w6b ⟨rfl,rfl⟩;simp only [])|(go_at_call 58;fail)|go_skip|go_guarded|go_step|go_upon)
   refine (first3 _ _ _ _ _ _ (heap_alloc_new w6 _)).mono ?_
   rintro r w7 ⟨hr6,hw7⟩
   have hr7:=hr6.trans (congrArg (fun z=>Ending.returned (.int .i64 z)) HEq.out)
   subst hr7
   clear hr6
   simp only []
   have B7:Hid (Below w1.heap.size w1 w7):=Lib.hid (hw7 ▸ B6.out.alloc B6.out.size _)
   clear hw7
   by_cases he0:e0=0
   ·subst he0
    have HFa:=Lib.hid (HFacts.out rfl)
    have HZ2:Hid (Z=(changeD E [en p 0],0)):=Lib.hid (by rw [HZ.out,HE0.out];rfl)
    have D8:=Lib.hid (HD1.out.below B7.out)
    have HCh:Hid (ChgIn S1 (w7.alloc (.cells #[.string X,.pointer none] 125)) E adr [] (some ⟨w7.heap.size,0,none⟩) [en p 0]):=Lib.hid (chg_remove D8.out rfl HX.out HFa.out)
    repeat (first|(go_at_call 64;fail)|go_skip|go_guarded|go_step|go_upon)
    refine (change_any S1 _ P E adr [] _ 1 [en p 0] ⟨x,D8.out.below ((Below.refl _ _).alloc (Nat.le_refl _) _)⟩ HCh.out HB2.out.1).mono ?_
    rintro r w9 ⟨rfl,⟨S9,hs9,hd9⟩,hu9⟩
    simp only []
    have HU9:=Lib.hid hu9
    have HS9:=Lib.hid hs9
    have HD9:=Lib.hid hd9
    clear hu9 hs9 hd9
    repeat (first|go_skip|go_guarded|go_step|go_upon)
    go_ret
    rw [HZ2.out]
    have hz8:=B7.out.size
    refine⟨rfl,does_then HU1.out HS1.out ((((Out.refl _ w1).thenBelow B7.out).alloc _).then HU9.out (fun j hj hT=>hT.imp (·.1) id)) (fun k hk=>?_) ⟨adr,HD9.out⟩⟩
    have hz10:(w7.alloc (.cells #[.string X,.pointer none] 125)).heap.size=w7.heap.size+1:=by simp
    rcases HS9.out k hk with h4|⟨a,h4,h5⟩|h4
    ·exact .inl h4
    ·injection h4 with h4
     subst h4
     exact .inr (by simp only at h5;omega)
    ·exact .inr (by omega)
   ·have hez:(e0 != 0)=true:=by simpa using he0
    have hez2:(e0==0)=false:=by simpa using he0
    have HZ2:Hid (Z=(E,e0)):=Lib.hid (by rw [HZ.out,HE0.out];unfold refuse;rw [if_neg he0])
    clear he0
    repeat (first|go_skip|go_guarded|go_step|go_upon)
    go_ret
    rw [HZ2.out]
    exact⟨rfl,does_below HU1.out HS1.out ⟨adr,x,HD1.out⟩ B7.out⟩
 ·have HZ:=Lib.hid (HW1.out h0)
  have hez:(er != 0)=true:=by simpa using h0
  have hez2:(er==0)=false:=by simpa using h0
  clear hu1 hs1 hd1 h0
  repeat (first|go_skip|go_guarded|go_step|go_upon)
  go_ret
  rw [HZ.out]
  exact⟨rfl,HU1.out,S1,HS1.out,adr,x,HD1.out⟩
end DG
end Go.Proofs.YtmohjalanhnhbaaGreatDoor
end

section
namespace Go.Proofs.YtmohjalanhnhbaaGreatDoor
open Go.RowKit Go.Lib Go.BigFrame
namespace DG
open OM TP TM DP DM TG TR FP
theorem diskX_boot {S:Nat->Prop} {w w':World} {P:Nat} {D:Dk} {adr:Int->Nat} {pend:List Nd} {x:Parts} {fs:List Fate} {es:List Edit} {v1 v2:Value} {evs:List Ev} (h:DiskX S w P D adr pend x) (ho:Out (fun k=>k=P) w w')
  (hr:w'.heap[P]?=some (.cells #[x.vn,x.vs,x.vc,.bool true,.int .i64 (D.inos.length:Nat),.int .i64 (D.clock:Nat),v1,v2,.slice none 0 0] 122 (0,0)))
  (h1:w'.ownsRow w.heap.size 116 4 v1 fs.length (fatesC fs)) (h2:w'.ownsRow w.heap.size 86 3 v2 es.length (editsC es evs)) (hl:evs.length=es.length)
  (hv:∀ (j:Nat) (e:Edit) (v:Ev),es[j]?=some e->evs[j]?=some v->w'.ownsRow w.heap.size 45 4 (.slice v.a e.value.length v.c) e.value.length (nodesC e.value)) :
  DiskX (fun k=>S k∨(w.heap.size<=k/\k<w'.heap.size)) w' P (bootD D fs es) adr pend { x with vf:=v1,ve:=v2,vt:=.slice none 0 0,evs:=evs }:=by
 have hs:=ho.size
 have hpl:=(Array.getElem?_eq_some_iff.1 h.row).1
 have same:∀ k,S k->w'.heap[k]?=w.heap[k]?:=fun k hk=>ho.block k (h.lt k hk) (fun e=>h.np (e ▸ hk))
 have hr0:=h.rest.keep hs same
 refine⟨hr,?_,fun k hk=>?_,?_,fit_clock h.fit D.clock false [] fs es⟩
 ·have up:=hr0.sup (T:=fun k=>S k∨(w.heap.size<=k/\k<w'.heap.size)) (fun k hk=>.inl hk)
  exact {
   names:=up.names
   nin:=up.nin
   safe:=up.safe
   sin:=up.sin
   apart:=up.apart
   ch:=up.ch
   chin:=up.chin
   each:=up.each
   crow:=up.crow
   later:=up.later
   ends:=up.ends
   lens:=up.lens
   inos:=up.inos
   iin:=up.iin
   inj:=up.inj
   fates:=owns_base h1 0 (Nat.zero_le _)
   fin:=fun g hg=>.inr (h1.lt g hg)
   edits:=owns_base h2 0 (Nat.zero_le _)
   ein:=fun g hg=>.inr (h2.lt g hg)
   elen:=hl
   vals:=fun j e v he hv2=>by
    have h3:=hv j e v he hv2
    refine⟨owns_base h3 0 (Nat.zero_le _),fun a ha=>.inr (h3.lt a.block ?_)⟩
    rw [ha]
    rfl
   trace:=World.ownsRow_nil _ _ _ _
   tin:=fun g hg=>by cases hg }
 ·rcases hk with hk|hk
  ·exact Nat.lt_of_lt_of_le (h.lt k hk) hs
  ·exact hk.2
 ·rintro (hk|hk)
  ·exact h.np hk
  ·omega
theorem dboot_nil (S:Nat->Prop) (w:World) (P:Nat) (D:Dk) (fs:List Fate) (af:Option Addr) (cf:Nat) (h:Disk S w P D) (hf:∀ ad,af=some ad->∀ (j:Nat) (u:Value),(fatesC fs)[j]?=some u->w.cell? (ad.add j)=some u)
  (hff:∀ ad,af=some ad->ad.block≠P/\ad.block<w.heap.size) (hno:af=none->fs.length=0/\cf=0) (hl:fs.length<=1048576) :
  Calls Tryz.prog 17 #[.pointer (some ⟨P,0,none⟩),.slice af fs.length cf,.slice none 0 0] w fun r w'=>r=.returned (.tuple #[])/\Does S P w.heap.size w (bootD D fs []) w':=by
 obtain⟨adr,x,h⟩:=h
 have hr:=h.row
 unfold diskC at hr
 have hpl:=(Array.getElem?_eq_some_iff.1 hr).1
 have flen:∀ l:List Fate,(fatesC l).length=l.length*4:=fun l=>by
  induction l with
  | nil=>rfl
  | cons a l ih =>
   show (fateC a++fatesC l).length=_
   rw [List.length_append,ih,List.length_cons]
   show 4+_=_
   omega
 have fone:∀ l:List Fate,∀ u∈fatesC l,u.oneCell'=true:=fun l u hu=>by
  obtain⟨f,_,hu⟩:=List.mem_flatMap.1 hu
  unfold fateC at hu
  simp at hu
  rcases hu with rfl|rfl|rfl|rfl<;>rfl
 have R1:Hid (((w.setCell ⟨P,3,none⟩ (.bool true)).setCell ⟨P,8,none⟩ (.slice none 0 0)).heap[P]?=some (.cells #[x.vn,x.vs,x.vc,.bool true,.int .i64 (D.inos.length:Nat),.int .i64 (D.clock:Nat),x.vf,x.ve,.slice none 0 0] 122 (0,0))):=Lib.hid (row_set (j:=8) (row_set (j:=3) hr _) _)
 have U1:Hid (Out (fun k=>k=P) w ((w.setCell ⟨P,3,none⟩ (.bool true)).setCell ⟨P,8,none⟩ (.slice none 0 0))):=Lib.hid (((Out.refl (fun k=>k=P) w).setCell (p:=⟨P,3,none⟩) (fun _=>rfl) _).setCell (p:=⟨P,8,none⟩) (fun _=>rfl) _)
 have Z1:Hid (((w.setCell ⟨P,3,none⟩ (.bool true)).setCell ⟨P,8,none⟩ (.slice none 0 0)).heap.size=w.heap.size):=Lib.hid (by simp [set_size])
 have CF:Hid (Calls Tryz.prog 69 #[.slice af fs.length cf] ((w.setCell ⟨P,3,none⟩ (.bool true)).setCell ⟨P,8,none⟩ (.slice none 0 0)) (ClPost 116 4 fs.length (fatesC fs) ((w.setCell ⟨P,3,none⟩ (.bool true)).setCell ⟨P,8,none⟩ (.slice none 0 0)))):=Lib.hid (clF_any af fs.length cf (fatesC fs) _ (fun ad ha j u hu=>by
  have h1:=hf ad ha j u hu
  obtain⟨h2,h3⟩:=hff ad ha
  have hab:(ad.add j).block=ad.block:=by unfold Addr.add;split<;>rfl
  exact (U1.out.cell (p:=ad.add j) (hab ▸ h3) (fun e=>h2 (hab ▸ e))).trans h1) (flen fs) (fone fs) hno (by omega))
 have CU:Hid (∀ W,Calls Tryz.prog 70 #[.slice none 0 0] W (ClPost 86 3 0 [] W)):=Lib.hid (fun W=>clU_any none 0 0 [] W (fun ad ha=>by cases ha) rfl (fun u hu=>by cases hu) (fun _=>⟨rfl,rfl⟩) (by omega))
 obtain⟨n,hn⟩:∃ n,fs.length=n:=⟨_,rfl⟩
 have HN:=Lib.hid hn
 rw [hn] at CF ⊢
 have HX:=Lib.hid h
 obtain⟨-,-,-,c3,-,-,-,-,c8,cfz⟩:=row9 hr
 clear h hr hf hff hno flen fone hn
 go_enter Tryz.func17,Tryz.ntmps17
 repeat (first|(go_at_call 69;fail)|go_skip|go_guarded|go_step|go_upon)
 refine CF.out.mono ?_
 rintro r w2 ⟨v1,rfl,ho1,hb1⟩
 simp only []
 obtain⟨a1,k1,hv1,_⟩:=owns_view ho1
 subst hv1
 have B1:=Lib.hid hb1
 have HO1:=Lib.hid ho1
 clear ho1 hb1
 repeat (first|(go_at_call 70;fail)|go_skip|go_guarded|go_step|go_upon)
 refine (CU.out w2).mono ?_
 rintro r w3 ⟨v2,rfl,ho2,hb2⟩
 simp only []
 obtain⟨a2,k2,hv2,_⟩:=owns_view ho2
 subst hv2
 have B2:=Lib.hid hb2
 have HO2:=Lib.hid ho2
 have hp1:P<((w.setCell ⟨P,3,none⟩ (.bool true)).setCell ⟨P,8,none⟩ (.slice none 0 0)).heap.size:=by rw [Z1.out];exact hpl
 have hp2:P<w2.heap.size:=Nat.lt_of_lt_of_le hp1 B1.out.size
 have R3:=Lib.hid ((hb2.block P hp2).trans ((B1.out.block P hp1).trans R1.out))
 obtain⟨-,-,-,-,-,-,d6,d7,-,df⟩:=row9 R3.out
 clear ho2 hb2
 repeat (first|go_skip|go_guarded|go_step|go_upon)
 have U3:Hid (Out (fun k=>k=P) w ((w3.setCell ⟨P,6,none⟩ (.slice a1 n k1)).setCell ⟨P,7,none⟩ (.slice a2 0 k2))):=Lib.hid (((((U1.out.thenBelow B1.out).thenBelow B2.out)).setCell (p:=⟨P,6,none⟩) (fun _=>rfl) _).setCell (p:=⟨P,7,none⟩) (fun _=>rfl) _)
 have R4:=Lib.hid (row_set (j:=7) (row_set (j:=6) R3.out (.slice a1 n k1)) (.slice a2 0 k2))
 have hz2:=B1.out.size
 have hz3:=B2.out.size
 have hzz:=Z1.out
 have HA:Hid (((w3.setCell ⟨P,6,none⟩ (.slice a1 n k1)).setCell ⟨P,7,none⟩ (.slice a2 0 k2)).ownsRow w.heap.size 116 4 (.slice a1 n k1) n (fatesC fs)):=Lib.hid (by
  have h1:=owns_below HO1.out B2.out
  rw [hzz] at h1
  refine own_same h1 fun g hg=>?_
  have hgp:g≠P:=fun e=>by have:=(h1.lt g hg).1;omega
  exact (set_other _ P 7 g _ hgp).trans (set_other _ P 6 g _ hgp))
 have HBb:Hid (((w3.setCell ⟨P,6,none⟩ (.slice a1 n k1)).setCell ⟨P,7,none⟩ (.slice a2 0 k2)).ownsRow w.heap.size 86 3 (.slice a2 0 k2) 0 []):=Lib.hid (by
  have h1:=owns_base HO2.out w.heap.size (by omega)
  refine own_same h1 fun g hg=>?_
  have hgp:g≠P:=fun e=>by have:=(h1.lt g hg).1;omega
  exact (set_other _ P 7 g _ hgp).trans (set_other _ P 6 g _ hgp))
 obtain⟨w4,hw4⟩:∃ W,(w3.setCell ⟨P,6,none⟩ (.slice a1 n k1)).setCell ⟨P,7,none⟩ (.slice a2 0 k2)=W:=⟨_,rfl⟩
 rw [hw4] at U3 R4 HA HBb
 try rw [hw4]
 clear hw4
 go_loopw [28] (fun s28 wr=>s28=.int .i64 0/\w4=wr) (fun _ _=>0)
 case atStart=>exact⟨rfl,rfl⟩
 case round =>
  obtain⟨rfl,rfl⟩:=hrel
  repeat (first|go_skip|go_guarded|go_step|go_upon)
  go_end0
  have hD:=diskX_boot (fs:=fs) (es:=[]) (evs:=[]) (v1:=.slice a1 n k1) (v2:=.slice a2 0 k2) HX.out U3.out R4.out (by rw [HN.out];exact HA.out) HBb.out rfl (fun j e v he _=>by simp at he)
  exact⟨rfl,U3.out.mono (fun k _ hk=>.inr hk),_,fun k hk=>hk.imp id (·.1),adr,_,hD⟩
end DG
end Go.Proofs.YtmohjalanhnhbaaGreatDoor
end

section
namespace Go.Proofs.YtmohjalanhnhbaaGreatDoor
open Go.RowKit Go.Lib Go.BigFrame
namespace DG
open OM TP TM DP DM TG TR FP
theorem tree_of (S:Nat->Prop) (w:World) (P:Nat) (D:Dk) (h:Disk S w P D) :
  Calls Tryz.prog 15 #[.pointer (some ⟨P,0,none⟩)] w (TR.AtPost (treeD D) w):=by
 obtain⟨adr,x,h⟩:=h
 obtain⟨ao,cap,hvn,hlay,hcap,hno,hbk⟩:=layE_own h.rest.names
 have CT:=Lib.hid (dtree_any adr ao cap D.names D.inos w hlay (h.rest.inos.sub (fun e he=>by unfold liveL;exact List.mem_append_right _ (List.mem_append_left _ he))) h.fit.names)
 have hr:=h.row
 unfold diskC at hr
 rw [hvn] at hr
 obtain⟨n,hn⟩:∃ n,D.names.length=n:=⟨_,rfl⟩
 rw [hn] at CT hr
 obtain⟨c0,-,-,-,-,-,-,-,-,-⟩:=row9 hr
 obtain⟨t,ht⟩:∃ t,treeD D=t:=⟨_,rfl⟩
 have ht2:D.names.map (nodeOf D.inos)=t:=ht
 rw [ht2] at CT
 rw [ht]
 clear h hvn hlay hcap hno hbk hr hn ht ht2
 go_enter Tryz.func15,Tryz.ntmps15
 repeat (first|(go_at_call 67;fail)|go_skip|go_guarded|go_step|go_upon)
 refine CT.out.mono ?_
 rintro r w1 ⟨v,rfl,ho,hb⟩
 simp only []
 have HO:=Lib.hid ho
 have HB:=Lib.hid hb
 clear ho hb
 obtain⟨a1,k1,hv1,_⟩:=owns_view HO.out
 subst hv1
 repeat (first|go_skip|go_guarded|go_step|go_upon)
 go_ret
 exact⟨_,rfl,HO.out,HB.out⟩
theorem trace_of (S:Nat->Prop) (w:World) (P:Nat) (D:Dk) (h:Disk S w P D) (hl:D.trace.length<=1000000) :
  Calls Tryz.prog 16 #[.pointer (some ⟨P,0,none⟩)] w (ClPost 75 3 D.trace.length (didsC D.trace) w):=by
 obtain⟨adr,x,h⟩:=h
 obtain⟨ao,cap,hvt,hx⟩:=owns_view h.rest.trace
 have dlen:∀ l:List Did,(didsC l).length=l.length*3:=fun l=>by
  induction l with
  | nil=>rfl
  | cons a l ih =>
   show (didC a++didsC l).length=_
   rw [List.length_append,ih,List.length_cons]
   show 3+_=_
   omega
 have done:∀ l:List Did,∀ u∈didsC l,u.oneCell'=true:=fun l u hu=>by
  obtain⟨f,_,hu⟩:=List.mem_flatMap.1 hu
  exact did_one f u hu
 have hnone:ao=none->D.trace.length=0/\cap=0:=fun ha=>by
  rcases h.rest.trace.2 with ⟨e1,e2⟩|⟨g,cp,cur,e1,_⟩
  ·rw [hvt] at e1
   injection e1 with _ e3 e4
   exact⟨e3,e4⟩
  ·rw [hvt,ha] at e1
   injection e1 with e1
   cases e1
 have CT:=Lib.hid (clD_any ao D.trace.length cap (didsC D.trace) w (fun ad ha j u hu=>by
  have hlt:j<(didsC D.trace).length:=(List.getElem?_eq_some_iff.1 hu).1
  have hd:=dlen D.trace
  obtain⟨g,h1,_,_,h3⟩:=hx (by omega)
  rw [h1] at ha
  injection ha with ha
  subst ha
  have e1:(⟨g,0,none⟩:Addr).add j=⟨g,j,none⟩:=by simp [Addr.add];omega
  rw [e1]
  exact (h3 j (by omega)).trans hu) (dlen _) (done _) hnone (by omega))
 have hr:=h.row
 unfold diskC at hr
 rw [hvt] at hr
 obtain⟨n,hn⟩:∃ n,D.trace.length=n:=⟨_,rfl⟩
 rw [hn] at CT hr ⊢
 obtain⟨-,-,-,-,-,-,-,-,c8,-⟩:=row9 hr
 clear h hvt hx hr hn dlen done hnone hl
 go_enter Tryz.func16,Tryz.ntmps16
 repeat (first|(go_at_call 68;fail)|go_skip|go_guarded|go_step|go_upon)
 refine CT.out.mono ?_
 rintro r w1 ⟨v,rfl,ho,hb⟩
 simp only []
 have HO:=Lib.hid ho
 have HB:=Lib.hid hb
 clear ho hb
 obtain⟨a1,k1,hv1,_⟩:=owns_view HO.out
 subst hv1
 repeat (first|go_skip|go_guarded|go_step|go_upon)
 go_ret
 exact⟨_,rfl,HO.out,HB.out⟩
end DG
end Go.Proofs.YtmohjalanhnhbaaGreatDoor
end
