import Derived.Test.YtmohjalanhnhbaaGreatDoorRkEd
set_option linter.all false
set_option maxRecDepth 100000
set_option maxHeartbeats 25600000
namespace Go.Proofs.YtmohjalanhnhbaaGreatDoor
open Go.RowKit Go.Lib Go.BigFrame
namespace RK
open OM TP TM DP DM FP DG TG TR
theorem RX.growTrace {w W W':World} {T:Nat->Prop} {Q m m':Nat} {D D':Dk} {x:RP} {v:Value} (h:RX w T W Q m D x) (ho:Out (fun k=>k=Q∨x.vt.ownBlock=some k) W W')
  (h1:D'.names=D.names) (h2:D'.safe=D.safe) (h3:D'.later=D.later) (h4:D'.inos=D.inos) (h5:D'.fates=D.fates) (h6:D'.edits=D.edits)
  (hrow:W'.heap[Q]?=some (.cells (rdC D' { x with vt:=v }) 57 (0,0)))
  (hi:W'.ownsRow 0 75 3 v D'.trace.length (didsC D'.trace)) (hv:v.ownBlock=x.vt.ownBlock∨∃ g,v.ownBlock=some g/\W.heap.size<=g/\g<W'.heap.size) (hnum:Num m' D'):RAft w W T Q m' D' W':=by
 have hQ:=(Array.getElem?_eq_some_iff.1 h.row).1
 have hne:∀ k,T k->x.vt.ownBlock≠some k->W'.heap[k]?=W.heap[k]?:=fun k hk hn=>ho.block k (h.lt k hk) (fun e=>by
  rcases e with e|e
  ·exact h.np (e ▸ hk)
  ·exact hn e)
 have hlt:∀ k,x.vt.ownBlock=some k->IsT W k 75:=fun k hk=>own_type h.trace k hk
 have hE:∀ g,T g->IsT W g 130->W'.heap[g]?=W.heap[g]?:=fun g hg hi=>hne g hg (fun e=>(hlt g e).ne hi (by decide) rfl)
 have hL:∀ g,x.vl.ownBlock=some g->W'.heap[g]?=W.heap[g]?:=fun g hg=>hne g (h.lin g hg) (fun e=>(hlt g e).ne (own_type h.later g hg) (by decide) rfl)
 have hI:∀ g,x.vi.ownBlock=some g->W'.heap[g]?=W.heap[g]?:=fun g hg=>hne g (h.iin g hg) (fun e=>(hlt g e).ne (own_type h.inos g hg) (by decide) rfl)
 refine⟨fun k=>T k∨(W.heap.size<=k/\k<W'.heap.size),⟨{ x with vt:=v },⟨hrow,?_,?_,?_,?_,(fun g hg=>.inl (h.lin g hg)),?_,?_,(fun g hg=>.inl (h.iin g hg)),hi,?_,?_,?_,?_,fun k hk=>?_,h.ql,fun k hk=>?_,?_,?_,hnum⟩⟩,fun k hk=>hk.imp id (·.1),ho.mono (fun k _ hk=>?_)⟩
 ·rw [h1];exact (h.names.same ho.size hE).sup (fun _=>.inl)
 ·rw [h2];exact (h.safe.same ho.size hE).sup (fun _=>.inl)
 ·rw [h3];exact own_same h.later hL
 ·rw [h3];exact h.llen
 ·intro j a l h7 h8
  rw [h3] at h8
  exact ((h.each j a l h7 h8).same ho.size hE).sup (fun _=>.inl)
 ·rw [h4];exact own_same h.inos hI
 ·intro g hg
  have hg:v.ownBlock=some g:=hg
  rcases hv with h1|⟨g',h1,h2,h3⟩
  ·exact .inl (h.tin g (by rw [<- h1];exact hg))
  ·rw [hg] at h1
   injection h1 with h1
   rw [h1]
   exact .inr ⟨h2,h3⟩
 ·rw [h5];exact h.fates
 ·rw [h6];exact h.edits
 ·rw [h6];exact h.epath
 ·rcases hk with h1|h1
  ·exact h.lo k h1
  ·exact Nat.le_trans h.bel.size h1.1
 ·rcases hk with h1|h1
  ·exact Nat.lt_of_lt_of_le (h.lt k h1) ho.size
  ·exact h1.2
 ·rintro (h1|h1)
  ·exact h.np h1
  ·omega
 ·exact ((Out.of_below h.bel).then ho (fun j _ hj=>by
   rcases hj with hj|hj
   ·rw [hj];exact h.ql
   ·exact h.lo j (h.tin j hj))).below (fun k hk _ h2=>by omega) (Nat.le_refl _)
 ·rcases hk with h1|h1
  ·exact .inr h1
  ·exact .inl (h.tin k h1)
theorem RX.mono {w W:World} {T:Nat->Prop} {Q m n:Nat} {D:Dk} {x:RP} (h:RX w T W Q m D x) (hm:m<=n):RX w T W Q n D x:={ h with num:=h.num.mono hm }
theorem RS.mono {w W:World} {T:Nat->Prop} {Q m n:Nat} {D:Dk} (h:RS w W T Q m D) (hm:m<=n):RS w W T Q n D:=by
 obtain⟨x,h⟩:=h
 exact⟨x,h.mono hm⟩
theorem RAft.mono {w W W':World} {T:Nat->Prop} {Q m n:Nat} {D:Dk} (h:RAft w W T Q m D W') (hm:m<=n):RAft w W T Q n D W':=by
 obtain⟨T',h1,h2,h3⟩:=h
 exact⟨T',h1.mono hm,h2,h3⟩
def edsR (D:Dk) (l:List Edit):Dk:={ editsD (tickR D) D.trace.length l with clock:=D.clock }
theorem edsR_same (D:Dk) (l:List Edit):(edsR D l).clock=D.clock/\(edsR D l).trace=D.trace/\(edsR D l).edits=D.edits/\(edsR D l).fates=D.fates/\(edsR D l).off=D.off:=by
 obtain⟨_,h2,h3,h4,h5,_⟩:=edits_same (tickR D) D.trace.length l
 exact⟨rfl,h2,h3,h4,h5⟩
theorem tick_eds (D:Dk) (l:List Edit):tickR (edsR D l)=editsD (tickR D) D.trace.length l:=by
 have h:(editsD (tickR D) D.trace.length l).clock=D.clock+1:=(edits_same (tickR D) D.trace.length l).1
 unfold edsR
 generalize editsD (tickR D) D.trace.length l=E at h ⊢
 obtain⟨e1,e2,e3,e4,e5,e6,e7,e8,e9⟩:=E
 have h:e6=D.clock+1:=h
 subst h
 rfl
theorem edsR_yes {D:Dk} {es:List Edit} {k:Nat} {e:Edit} (he:es[k]?=some e) (h:e.at_=(D.trace.length:Int)):edsR D (es.take (k+1))=editR (edsR D (es.take k)) e.path e.value:=by
 unfold edsR
 rw [edits_succ (tickR D) D.trace.length he,if_pos h]
 unfold editR
 rw [show tickR ({ editsD (tickR D) D.trace.length (es.take k) with clock:=D.clock }:Dk)=editsD (tickR D) D.trace.length (es.take k) from tick_eds D (es.take k)]
theorem edsR_no {D:Dk} {es:List Edit} {k:Nat} {e:Edit} (he:es[k]?=some e) (h:¬ e.at_=(D.trace.length:Int)):edsR D (es.take (k+1))=edsR D (es.take k):=by
 unfold edsR
 rw [edits_succ (tickR D) D.trace.length he,if_neg h]
theorem V.eds {D:Dk} (h:V D) (l:List Edit):V (edsR D l):=by
 have h1:V (tickR D):=h.turn rfl rfl rfl rfl rfl
 exact (V.editsD l h1 D.trace.length).turn rfl rfl rfl rfl rfl
theorem eds_num {m:Nat} {D:Dk} (h:Num m D) {l:List Edit} (hl:l.length<=D.edits.length):Num (m+1) (edsR D l):=by
 obtain⟨h1,h2,h3,h4,h5,h6,h7⟩:=edits_same (tickR D) D.trace.length l
 obtain⟨_,g2,g3,_,_⟩:=edsR_same D l
 have a1:=h.clock
 have a2:=h.trace
 have a3:=h.later
 have a4:=h.inos
 have a5:=h.edits
 have b1:(tickR D).later.length=D.later.length:=rfl
 have b2:(tickR D).inos.length=D.inos.length:=rfl
 refine⟨?_,?_,?_,?_,?_,?_,?_⟩
 ·show D.clock<=_
  omega
 ·rw [g2];omega
 ·show (editsD (tickR D) D.trace.length l).later.length<=_
  omega
 ·show (editsD (tickR D) D.trace.length l).inos.length<=_
  omega
 ·rw [g3];exact a5
 ·rw [g3];exact h.path
 ·rw [g3];exact h.long
theorem begun_eds (D:Dk) (c:Did):begunD D c={ edsR D D.edits with clock:=D.clock+1,trace:=D.trace++[c] }:=by
 have h:=edits_same (tickR D) D.trace.length D.edits
 unfold begunD edsR
 show ({ editsD (tickR D) D.trace.length D.edits with trace:=(editsD (tickR D) D.trace.length D.edits).trace++[c] }:Dk)={ editsD (tickR D) D.trace.length D.edits with clock:=D.clock+1,trace:=D.trace++[c] }
 rw [h.2.1]
 have h':D.clock+1=(editsD (tickR D) D.trace.length D.edits).clock:=h.1.symm
 rw [h']
 rfl
def KfInv (fs:List Fate) (T:Int) (n:Nat) (w:World) (s12:Value) (wr:World):Prop :=
 ∃ k:Nat,s12=.int .i64 k/\k<=n/\NoneTo fs T k/\Below w.heap.size w wr
theorem farg_at {w W:World} {af:Option Addr} {fs:List Fate} (h:FArg w af fs) (hb:Below w.heap.size w W) {k:Nat} {f:Fate} (hk:fs[k]?=some f) :
  ∃ g o,af=some ⟨g,o,none⟩/\g<W.heap.size/\W.cell? ⟨g,o+k*4,none⟩=some (.int .i64 f.at_)/\W.cell? ⟨g,o+k*4+1,none⟩=some (.int .i64 f.what)/\W.cell? ⟨g,o+k*4+2,none⟩=some (.int .i64 f.keep)/\W.cell? ⟨g,o+k*4+3,none⟩=some (.int .i64 f.torn):=by
 have hkl:=(List.getElem?_eq_some_iff.1 hk).1
 cases af with
 | none=>have:=h.no rfl;omega
 | some ad =>
  obtain⟨f0,f1,f2,f3⟩:=fates_at fs k f hk
  have c:=fun j u hu=>h.at_ ad rfl j u hu
  have hlt:=h.lt ad rfl (by omega)
  obtain⟨b,off,spot⟩:=ad
  have c0:=c _ _ f0
  have hspot:spot=none:=by
   obtain⟨z0,-⟩:=fates_at fs 0 (fs[0]'(by omega)) (List.getElem?_eq_getElem _)
   have h1:=World.cell?_spot (c _ _ z0)
   simpa [Addr.add] using h1
  subst hspot
  have c1:=c _ _ f1
  have c2:=c _ _ f2
  have c3:=c _ _ f3
  have e:∀ j,(⟨b,off,none⟩:Addr).add j=⟨b,off+j,none⟩:=fun j=>by unfold Addr.add;split<;>simp_all
  rw [e] at c0 c1 c2 c3
  have hz:=hb.size
  exact⟨b,off,rfl,by have:b<w.heap.size:=hlt;omega,(hb.cell (p:=⟨b,off+k*4,none⟩) hlt).trans c0,(hb.cell (p:=⟨b,off+k*4+1,none⟩) hlt).trans (by rw [Nat.add_assoc];exact c1),(hb.cell (p:=⟨b,off+k*4+2,none⟩) hlt).trans (by rw [Nat.add_assoc];exact c2),(hb.cell (p:=⟨b,off+k*4+3,none⟩) hlt).trans (by rw [Nat.add_assoc];exact c3)⟩
theorem did_app (w1:World) (s L:Nat) (vt:Value) (ds:List Did) (c:Did) (Y1 Y2 Y3:ByteArray) (hs:w1.heap.size=s) (ho:w1.ownsRow 0 75 3 vt L (didsC ds)) (hL:L<=1000) (h1:txt c.call=.string Y1) (h2:txt c.path=.string Y2) (h3:txt c.to=.string Y3) :
  ∃ v' w',(Builtin.append_ #[39,39] 39 #[vt,.slice (some ⟨s,0,none⟩) 1 1]).run Tryz.prog (w1.alloc (.cells #[.string Y1,.string Y2,.string Y3] 75))=.ok v' w' /\
   w'.ownsRow 0 75 3 v' (L+1) (didsC ds++didC c)/\(w1.alloc (.cells #[.string Y1,.string Y2,.string Y3] 75)).grownBy w' vt.ownBlock/\(v'.ownBlock=vt.ownBlock∨v'.ownBlock=some (s+1)):=by
 obtain⟨i0,hi0,hz0,hz1,hz2⟩:=info_parts infoDid
 obtain⟨v',w',g1,g2,g3,_,g4⟩:=run_append_own_at (P:=Tryz.prog) (w1.alloc (.cells #[.string Y1,.string Y2,.string Y3] 75)) 0 39 39 75 i0 _ 3 48 Tryz.underlying39 hi0 hz0 hz1 hz2 rfl (by decide) _ L _ (ho.alloc _) ⟨s,0,none⟩ 1 1 (didC c) rfl (did_new _ _ hs.symm c _ _ _ h1 h2 h3 75) (did_one c) (by unfold maxLen;omega) (by omega) (Nat.zero_le _)
 rw [World.size_alloc,hs] at g4
 exact⟨v',w',g1,g2,g3,g4⟩
def fullB (D:Dk) (c:Did) (b:Bool):Prop:=(stepD D c).2=0->b=decide ((fateD (stepD D c).1).what=2)
theorem kstep_any (w W:World) (T:Nat->Prop) (Q m:Nat) (D:Dk) (c:Did) (h:RS w W T Q m D) (hv:V D) (hm:m+1<=1000) :
  Calls Tryz.prog 132 #[.pointer (some ⟨Q,0,none⟩),txt c.call,txt c.path,txt c.to] W fun r W'=>(∃ b,r=.returned (.tuple #[.int .i64 (stepD D c).2,.bool b])/\fullB D c b)/\RAft w W T Q (m+1) (stepD D c).1 W':=by
 obtain⟨i0,hi0,hz0,hz1,hz2⟩:=info_parts infoDid
 obtain⟨x,hx⟩:=h
 have hr:=hx.row
 unfold rdC at hr
 have hpl:=(Array.getElem?_eq_some_iff.1 hr).1
 obtain⟨Y1,hY1,_⟩:=txt_of c.call
 obtain⟨Y2,hY2,_⟩:=txt_of c.path
 obtain⟨Y3,hY3,_⟩:=txt_of c.to
 rw [hY1,hY2,hY3]
 have HX:=Lib.hid hx
 have HV:=Lib.hid hv
 have HY1:=Lib.hid hY1
 have HY2:=Lib.hid hY2
 have HY3:=Lib.hid hY3
 have HFu:Hid (∀ b,fullB D c b=((stepD D c).2=0->b=decide ((fateD (stepD D c).1).what=2))):=Lib.hid (fun _=>rfl)
 obtain⟨FB,hFB⟩:∃ FB,fullB D c=FB:=⟨_,rfl⟩
 rw [hFB] at HFu
 obtain⟨Z,hZ⟩:∃ Z,stepD D c=Z:=⟨_,rfl⟩
 have HZ:=Lib.hid hZ
 rw [hFB,hZ]
 rw [hZ] at HFu
 clear hFB
 cases hoff:D.off with
 | true =>
  rw [hoff] at hr
  have HZ2:Hid (Z=(D,75)):=Lib.hid (by rw [<- HZ.out];unfold stepD;rw [if_pos hoff])
  obtain⟨-,-,-,-,c4,-⟩:=row10 hr
  clear hx hv hY1 hY2 hY3 hZ hr hoff
  go_enter Tryz.func132,Tryz.ntmps132
  repeat (first|go_skip|go_guarded|go_step|go_upon)
  go_ret2
  have hFB2:=HFu.out false
  rw [HZ2.out] at hFB2 ⊢
  exact⟨⟨false,rfl,by rw [hFB2];intro h0;cases h0⟩,T,⟨_,HX.out.mono (Nat.le_succ m)⟩,fun _ h=>.inl h,Out.refl _ _⟩
 | false =>
  obtain⟨n,hn⟩:∃ n,D.edits.length=n:=⟨_,rfl⟩
  obtain⟨es,hes⟩:∃ es,D.edits=es:=⟨_,rfl⟩
  obtain⟨L,hL⟩:∃ n,D.trace.length=n:=⟨_,rfl⟩
  have hLm:L<=1000:=by have:=hx.num.trace;omega
  have hnm:n<=1048576:=by have:=hx.num.edits;omega
  obtain⟨cz,hcz⟩:∃ n,D.clock=n:=⟨_,rfl⟩
  have hcm:cz<=1000:=by have:=hx.num.clock;omega
  have hZs:Z=if (fateD (begunD D c)).what=3 then (crashD (begunD D c) (fateD (begunD D c)).keep (fateD (begunD D c)).torn,75) else if (fateD (begunD D c)).what=1 then (begunD D c,70) else (begunD D c,0):=by
   rw [<- hZ]
   unfold stepD
   rw [if_neg (by rw [hoff];exact Bool.false_ne_true)]
  have HZs:=Lib.hid hZs
  have HEs:=Lib.hid hes
  have HN:Hid (es.length=n):=Lib.hid (by rw [<- hes];exact hn)
  have HL:=Lib.hid hL
  have HC:=Lib.hid hcz
  have HOff:=Lib.hid hoff
  have HB0:Hid (begunD D c={ edsR D es with clock:=D.clock+1,trace:=D.trace++[c] }):=Lib.hid (by rw [<- hes];exact begun_eds D c)
  have HNum:Hid (∀ k,k<=n->Num (m+1) (edsR D (es.take k))):=Lib.hid (fun k hk=>eds_num hx.num (by rw [List.length_take,hes];omega))
  have HSame:Hid (∀ k,(edsR D (es.take k)).edits=es/\(edsR D (es.take k)).trace.length=L/\(edsR D (es.take k)).clock=cz/\(edsR D (es.take k)).off=false/\V (edsR D (es.take k))):=Lib.hid (fun k=>by
   obtain⟨g1,g2,g3,_,g5⟩:=edsR_same D (es.take k)
   exact⟨g3.trans hes,by rw [g2];exact hL,g1.trans hcz,g5.trans hoff,hv.eds _⟩)
  have HEd:Hid (∀ (k:Nat) (e:Edit) (V:World) (T1:Nat->Prop),es[k]?=some e->e.at_=(L:Int)->RS w V T1 Q (m+1) (edsR D (es.take k))->∀ a vo vc,LayN V vo e.value->e.value.length<=vc->Calls Tryz.prog 176 #[.pointer (some ⟨Q,0,none⟩),.agg #[.int .i64 a,txt e.path,.slice vo e.value.length vc]] V fun r W'=>r=.returned (.tuple #[])/\RAft w V T1 Q (m+1) (edsR D (es.take (k+1))) W'):=Lib.hid (fun k e V T1 hk ha hrs a vo vc hl hc=>by
   have hkl:=(List.getElem?_eq_some_iff.1 hk).1
   have hst:=edsR_yes (D:=D) hk (by rw [hL];exact ha)
   have hee:=hv.edits e (by rw [hes];exact List.mem_of_getElem? hk)
   rw [hst]
   refine kedit_any w V T1 Q (m+1) _ a e.path vo vc e.value hrs (hv.eds _) hl hee.2.1 hee.2.2 hc hee.1 hm ?_
   rw [<- hst]
   exact eds_num hx.num (by rw [List.length_take,hes];omega))
  have HBn:=Lib.hid (begun_num hx.num c)
  have HVB:=Lib.hid (hv.begun c)
  have D0:Hid (RAft w W T Q (m+1) (edsR D (es.take 0)) W):=Lib.hid ⟨T,⟨_,hx.mono (Nat.le_succ m)⟩,fun _ h=>.inl h,Out.refl _ _⟩
  rw [hoff,hL] at hr
  obtain⟨-,-,-,-,c4,c5,-⟩:=row10 hr
  clear hx hv hY1 hY2 hY3 hZ hr hoff hZs hn hes hL hcz HX
  go_enter Tryz.func132,Tryz.ntmps132
  repeat (first|go_skip|go_guarded|go_step|go_upon)
  go_loopw [11] (fun s11 wr=>∃ k:Nat,s11=.int .i64 k/\k<=n/\RAft w W T Q (m+1) (edsR D (es.take k)) wr) (fun s11 _=>n-(Go.RowKit.intOf s11).toNat)
  case atStart=>exact⟨0,rfl,Nat.zero_le _,D0.out⟩
  case round =>
   obtain⟨k,rfl,hk,haf⟩:=hrel
   have HAf:=Lib.hid haf
   obtain⟨T1,⟨x1,h1⟩,hs1,ho1⟩:=haf
   obtain⟨g1,g2,g3,g4,g5⟩:=HSame.out k
   have hr1:=h1.row
   unfold rdC at hr1
   rw [g1,g2,g3,g4,HN.out] at hr1
   have HR1:=Lib.hid hr1
   have HX1:=Lib.hid h1
   have hea:=h1.edits
   rw [g1] at hea
   have hbel:=h1.bel
   obtain⟨ae,hae⟩:∃ a,x1.ae=a:=⟨_,rfl⟩
   obtain⟨ce,hce⟩:∃ a,x1.ce=a:=⟨_,rfl⟩
   rw [hae,hce] at hr1 hea
   obtain⟨-,-,-,-,-,-,-,-,-,c9,-⟩:=row10 hr1
   have HS1:=Lib.hid hs1
   have HO1:=Lib.hid ho1
   clear h1 hs1 ho1 g1 g2 g3 g4 g5 hae hce
   by_cases hlt:k<n
   ·have hkz:(k:Int)<n:=by omega
    obtain⟨e,hee⟩:∃ e,es[k]?=some e:=⟨es[k]'(by rw [HN.out];exact hlt),List.getElem?_eq_getElem _⟩
    obtain⟨v,hvv⟩:∃ v,x1.evs[k]?=some v:=⟨x1.evs[k]'(by rw [hea.lens,HN.out];exact hlt),List.getElem?_eq_getElem _⟩
    obtain⟨g,o,rfl,hg,hc⟩:=hea.lay (by rw [HN.out];omega)
    obtain⟨y0,y1,y2⟩:=hc k e v hee hvv
    obtain⟨hw1,-⟩:=hea.vals k e v hee hvv
    have e0:=(hbel.cell (p:=⟨g,o+k*3,none⟩) hg).trans y0
    have e1:=(hbel.cell (p:=⟨g,o+k*3+1,none⟩) hg).trans y1
    have e2:=(hbel.cell (p:=⟨g,o+k*3+2,none⟩) hg).trans y2
    have CE:Hid (e.at_=(L:Int)->Calls Tryz.prog 176 #[.pointer (some ⟨Q,0,none⟩),.agg #[.int .i64 e.at_,txt e.path,.slice v.a e.value.length v.c]] wr fun r W'=>r=.returned (.tuple #[])/\RAft w wr T1 Q (m+1) (edsR D (es.take (k+1))) W'):=Lib.hid (fun ha =>
     HEd.out k e wr T1 hee ha ⟨x1,HX1.out⟩ e.at_ v.a v.c (hw1.lay.below hbel) hw1.cap)
    have HNo:Hid (¬ e.at_=(L:Int)->edsR D (es.take (k+1))=edsR D (es.take k)):=Lib.hid (fun ha=>edsR_no hee (by rw [HL.out];exact ha))
    have HGo:Hid (∀ W',RAft w wr T1 Q (m+1) (edsR D (es.take (k+1))) W'->RAft w W T Q (m+1) (edsR D (es.take (k+1))) W'):=Lib.hid (fun W' hh=>by
     exact RAft.chain HS1.out HO1.out hh)
    obtain⟨ea,ep,ev⟩:=e
    obtain⟨va,vc⟩:=v
    simp only at e0 e1 e2 CE HNo
    obtain⟨Y,hY,_⟩:=txt_of ep
    obtain⟨ln,hln⟩:∃ n,ev.length=n:=⟨_,rfl⟩
    rw [hY] at e1 CE
    rw [hln] at e2 CE
    clear hc hee hvv y0 y1 y2 hw1 hY hln hea hbel hlt hr1
    by_cases hq:ea=(L:Int)
    ·have hqb:(ea==(L:Int))=true:=by rw [hq];exact beq_self_eq_true _
     have CE2:=Lib.hid (CE.out hq)
     clear hq CE
     repeat (first|(go_at_call 176;refine CE2.out.mono ?_;rintro r w6 ⟨rfl,ha6⟩;simp only [];have HA6:=Lib.hid (HGo.out _ ha6);clear ha6)|go_skip|go_guarded|go_step|go_upon)
     exact⟨⟨k+1,by go_num,by omega,HA6.out⟩,by simp [Go.RowKit.intOf];omega⟩
    ·have hqb:(ea==(L:Int))=false:=by simpa using hq
     have HN2:=Lib.hid (HNo.out hq)
     clear hq CE
     repeat (first|go_skip|go_guarded|go_step|go_upon)
     exact⟨⟨k+1,by go_num,by omega,by rw [HN2.out];exact HAf.out⟩,by simp [Go.RowKit.intOf];omega⟩
   ·have hkz:¬ (k:Int)<n:=by omega
    have hkn:k=n:=by omega
    have htk:es.take k=es:=List.take_of_length_le (by rw [HN.out];omega)
    rw [htk] at HAf
    have hx0:=HX1.out
    rw [htk] at hx0
    have HX0:=Lib.hid hx0
    obtain⟨at1,ct1,hvt1,_⟩:=owns_view hx0.trace
    have hl1:(edsR D es).trace.length=L:=by rw [(edsR_same D es).2.1];exact HL.out
    have hl2:(edsR D es).clock=cz:=HC.out
    rw [hl1] at hvt1
    have ho1:=hx0.trace
    rw [hl1] at ho1
    have r1:wr.heap[Q]?=some (.cells #[.slice x1.an (edsR D es).names.length x1.cn,.slice x1.as_ (edsR D es).safe.length x1.cs,x1.vl,x1.vi,.bool false,.int .i64 (L:Nat),.int .i64 (cz:Nat),.slice at1 L ct1,.slice x1.af (edsR D es).fates.length x1.cf,.slice x1.ae (edsR D es).edits.length x1.ce] 57 (0,0)):=by
     have h:=hx0.row
     unfold rdC at h
     rw [hvt1,hl1,hl2] at h
     rw [(edsR_same D es).2.2.2.2,HOff.out] at h
     exact h
    have hQ1:=(Array.getElem?_eq_some_iff.1 r1).1
    have r2:=row_set (j:=6) (row_set (j:=5) r1 (.int .i64 ((L:Int)+1))) (.int .i64 ((cz:Int)+1))
    have hwL:IntKind.i64.wrap ((L:Int)+1)=(L:Int)+1:=by rw [IntKind.wrap_i64];omega
    have hwC:IntKind.i64.wrap ((cz:Int)+1)=(cz:Int)+1:=by rw [IntKind.wrap_i64];omega
    have hwL2:Go.RowKit.wrap64 ((L:Int)+1)=(L:Int)+1:=by unfold Go.RowKit.wrap64;omega
    have hwC2:Go.RowKit.wrap64 ((cz:Int)+1)=(cz:Int)+1:=by unfold Go.RowKit.wrap64;omega
    obtain⟨-,-,-,-,-,d5,d6,d7,-,-,df⟩:=row10 r1
    clear hlt hr1 hbel hea
    have hvQ:x1.vt.ownBlock≠some Q:=fun e=>hx0.np (hx0.tin Q e)
    have hApp:∃ v' w',(Builtin.append_ #[39,39] 39 #[.slice at1 L ct1,.slice (some ⟨wr.heap.size,0,none⟩) 1 1]).run Tryz.prog (((wr.setCell ⟨Q,5,none⟩ (.int .i64 ((L:Int)+1))).setCell ⟨Q,6,none⟩ (.int .i64 ((cz:Int)+1))).alloc (.cells #[.string Y1,.string Y2,.string Y3] 75))=.ok v' w' /\
      w'.ownsRow 0 75 3 v' (L+1) (didsC (edsR D es).trace++didC c)/\(((wr.setCell ⟨Q,5,none⟩ (.int .i64 ((L:Int)+1))).setCell ⟨Q,6,none⟩ (.int .i64 ((cz:Int)+1))).alloc (.cells #[.string Y1,.string Y2,.string Y3] 75)).grownBy w' x1.vt.ownBlock/\(v'.ownBlock=x1.vt.ownBlock∨v'.ownBlock=some (wr.heap.size+1)):=by
     rw [hvt1] at hvQ ho1 ⊢
     exact did_app _ _ _ _ _ c _ _ _ (by rw [set_size,set_size]) (own_same (own_same ho1 (fun g hg=>set_other wr Q 5 g (.int .i64 ((L:Int)+1)) (fun e=>hvQ (e ▸ hg)))) (fun g hg=>set_other (wr.setCell ⟨Q,5,none⟩ (.int .i64 ((L:Int)+1))) Q 6 g (.int .i64 ((cz:Int)+1)) (fun e=>hvQ (e ▸ hg)))) hLm HY1.out HY2.out HY3.out
    have HApp:=Lib.hid hApp
    have R2:=Lib.hid r2
    have HVQ:=Lib.hid hvQ
    have HVt:=Lib.hid hvt1
    have HL1:=Lib.hid hl1
    clear hApp hx0 hvt1 ho1 hl2 hvQ htk hkn r1 r2 hl1
    repeat (first|(at_builtin;obtain⟨v5,w5,hrun,hown5,hgrow5,hblk5⟩:=HApp.out;obtain⟨a5,k5,hv5,hx5⟩:=owns_view hown5;clear hx5;subst hv5;refine wpList_app_eq rfl (.tmp 66) (.tmp 71) 39 39 rfl _ _ rfl rfl hrun ?_;have HO5:=Lib.hid hown5;have HG5:=Lib.hid hgrow5;have HK5:=Lib.hid hblk5;have r5:=(hgrow5.block Q (by rw [World.size_alloc,set_size,set_size];omega) (fun e=>HVQ.out e.symm)).trans (old_row R2.out);have R5:=Lib.hid r5;obtain⟨-,-,-,-,-,-,-,f7,-,-,ff⟩:=row10 r5;clear hrun hown5 hgrow5 hblk5 r5)|go_skip|go_guarded|go_step|go_upon)
    obtain⟨B,hB⟩:∃ B,begunD D c=B:=⟨_,rfl⟩
    have hBe:{ edsR D es with clock:=D.clock+1,trace:=D.trace++[c] }=B:=by rw [<- HB0.out];exact hB
    have HBe:=Lib.hid hBe
    have hnB:=HBn.out
    have hvB:=HVB.out
    have hzs:=HZs.out
    rw [hB] at hnB hvB hzs
    have HVB2:=Lib.hid hvB
    have HZB:=Lib.hid hzs
    have hBt:B.trace=D.trace++[c]:=by rw [<- hBe]
    have hBl:((B.trace.length:Int)-1)=(L:Int):=by
     rw [hBt,List.length_append,List.length_singleton,HL.out]
     omega
    have HBl:=Lib.hid hBl
    have hrow:=row_set (j:=7) R5.out (.slice a5 (L+1) k5)
    have hout:Out (fun k=>k=Q∨x1.vt.ownBlock=some k) wr (w5.setCell ⟨Q,7,none⟩ (.slice a5 (L+1) k5)) :=
     (((((Out.refl _ wr).setCell (p:=⟨Q,5,none⟩) (fun _=>.inl rfl) _).setCell (p:=⟨Q,6,none⟩) (fun _=>.inl rfl) _).alloc (.cells #[.string Y1,.string Y2,.string Y3] 75)).grown HG5.out (fun k hk _=>.inr hk)).setCell (p:=⟨Q,7,none⟩) (fun _=>.inl rfl) _
    have hnv5:∀ g,(Value.slice a5 (L+1) k5).ownBlock=some g->g≠Q:=fun g hg e=>by
     rcases HK5.out with h1|h1
     ·rw [h1] at hg;exact HVQ.out (e ▸ hg)
     ·rw [h1] at hg;injection hg with hg;omega
    have haf:RAft w wr T1 Q (m+1) B (w5.setCell ⟨Q,7,none⟩ (.slice a5 (L+1) k5)):=by
     refine HX0.out.growTrace (D':=B) (v:=.slice a5 (L+1) k5) hout (by rw [<- hBe]) (by rw [<- hBe]) (by rw [<- hBe]) (by rw [<- hBe]) (by rw [<- hBe]) (by rw [<- hBe]) ?_ ?_ ?_ hnB.num
     ·rw [hrow]
      unfold rdC
      rw [<- hBe]
      simp only
      rw [show (edsR D es).off=false by rw [(edsR_same D es).2.2.2.2];exact HOff.out,List.length_append,List.length_singleton,HL.out,HC.out]
      rfl
     ·rw [hBt,dids_snoc,List.length_append,List.length_singleton,HL.out]
      have h1:=own_same HO5.out fun g hg=>set_other w5 Q 7 g (.slice a5 (L+1) k5) (hnv5 g hg)
      rw [(edsR_same D es).2.1] at h1
      exact h1
     ·rcases HK5.out with h1|h1
      ·exact .inl h1
      ·refine .inr ⟨_,h1,by omega,?_⟩
       rw [set_size]
       exact (HO5.out.lt _ h1).2
    have HA6:=Lib.hid (RAft.chain HS1.out HO1.out haf)
    obtain⟨w6,hw6⟩:∃ w6,w5.setCell ⟨Q,7,none⟩ (.slice a5 (L+1) k5)=w6:=⟨_,rfl⟩
    rw [hw6] at haf HA6 ⊢
    obtain⟨T6,⟨x6,hx6⟩,hs6,ho6⟩:=haf
    have HX6:=Lib.hid hx6
    have HG6:Hid (∀ D' W' V,Below w6.heap.size w6 V->RAft w V T6 Q (m+1) D' W'->RAft w W T Q (m+1) D' W'):=Lib.hid (fun D' W' V hV hh=>RAft.chain HS1.out HO1.out (RAft.chain hs6 ho6 (hh.under hV)))
    obtain⟨nf,hnf⟩:∃ n,B.fates.length=n:=⟨_,rfl⟩
    have HNf:=Lib.hid hnf
    have hnfm:nf<=1048576:=by have:=hx6.fates.len;omega
    have r6:=hx6.row
    unfold rdC at r6
    rw [hnf] at r6
    obtain⟨af,haf2⟩:∃ a,x6.af=a:=⟨_,rfl⟩
    obtain⟨cfz,hcf2⟩:∃ a,x6.cf=a:=⟨_,rfl⟩
    have hfa:=hx6.fates
    rw [haf2] at hfa
    have HFa:=Lib.hid hfa
    rw [haf2,hcf2] at r6
    obtain⟨-,-,-,-,-,-,-,-,d8,-,-⟩:=row10 r6
    have D8:=Lib.hid d8
    have hQ6:=(Array.getElem?_eq_some_iff.1 r6).1
    have HBel:=Lib.hid hx6.bel
    clear hBe hnB hvB hzs hBt hBl hrow hout hnv5 hw6 hx6 hs6 ho6 hnf r6 haf2 hcf2 hfa hB f7 ff d5 d6 d7 df c4 c5 d8
    go_loopw [12] (fun s12 wr=>KfInv B.fates (L:Int) nf w6 s12 wr) (fun s12 _=>nf-(Go.RowKit.intOf s12).toNat)
    case atStart=>exact⟨0,rfl,Nat.zero_le _,fun j f hj=>by omega,Below.refl _ _⟩
    case round =>
     obtain⟨k2,rfl,hk2,hno,hb⟩:=hrel
     have HNo:=Lib.hid hno
     have HB6:=Lib.hid hb
     have d8:=(hb.cell (p:=⟨Q,8,none⟩) hQ6).trans D8.out
     clear hno hb
     by_cases hlt:k2<nf
     ·have hkz2:(k2:Int)<nf:=by omega
      obtain⟨f,hf⟩:∃ f,B.fates[k2]?=some f:=⟨_,List.getElem?_eq_getElem (by rw [HNf.out];exact hlt)⟩
      obtain⟨g,o,rfl,hg,y0,y1,y2,y3⟩:=farg_at HFa.out (Below.trans HBel.out (HB6.out.mono HBel.out.size)) hf
      have HFe:Hid (f.at_=(L:Int)->fateD B=f):=Lib.hid (fun he=>by
       unfold fateD
       rw [HBl.out]
       exact fate_found HNo.out hf he)
      have HNo2:Hid (f.at_≠(L:Int)->NoneTo B.fates (L:Int) (k2+1)):=Lib.hid (fun he j f' hj hf'=>by
       by_cases h:j<k2
       ·exact HNo.out j f' h hf'
       ·have:j=k2:=by omega
        subst this
        rw [hf] at hf'
        injection hf' with hf'
        rw [<- hf']
        exact he)
      obtain⟨fa,fw,fk,ft⟩:=f
      simp only at y0 y1 y2 y3
      clear hf hlt hg
      by_cases hea:fa=(L:Int)
      ·have hq1:(fa==(L:Int))=true:=by simpa using hea
       have hq2:(fa != (L:Int))=false:=by simpa using hea
       have hfd:=HFe.out hea
       have hz:=HZB.out
       rw [hfd] at hz
       simp only at hz
       clear hea
       by_cases h3:fw=3
       ·subst h3
        have HZ5:Hid (Z=(crashD B fk ft,75)):=Lib.hid (by rw [hz,if_pos rfl])
        have CC:=kcrash_any w wr T6 Q (m+1) B ⟨fa,3,fk,ft⟩ ⟨x6,HX6.out.below HB6.out⟩ HVB2.out.fit hm
        simp only at CC
        have HCC:=Lib.hid CC
        clear CC hz hfd
        repeat (first|(go_at_call 177;refine HCC.out.mono ?_;rintro r w9 ⟨rfl,ha9⟩;simp only [];have HA9:=Lib.hid ha9;clear ha9)|go_skip|go_guarded|go_step|go_upon)
        go_ret2
        have hFB2:=HFu.out false
        rw [HZ5.out] at hFB2 ⊢
        exact⟨⟨false,rfl,by rw [hFB2];intro h0;cases h0⟩,HG6.out _ _ _ HB6.out HA9.out⟩
       ·have hq3:(fw==3)=false:=by simpa using h3
        by_cases h1:fw=1
        ·subst h1
         have HZ5:Hid (Z=(B,70)):=Lib.hid (by rw [hz,if_neg h3,if_pos rfl])
         clear hz hfd
         repeat (first|go_skip|go_guarded|go_step|go_upon)
         go_ret2
         have hFB2:=HFu.out false
         rw [HZ5.out] at hFB2 ⊢
         exact⟨⟨false,rfl,by rw [hFB2];intro h0;cases h0⟩,HA6.out.later HB6.out⟩
        ·have hq4:(fw==1)=false:=by simpa using h1
         have HZ5:Hid (Z=(B,0)):=Lib.hid (by rw [hz,if_neg h3,if_neg h1])
         have HFd:=Lib.hid hfd
         obtain⟨b2,hb2⟩:∃ b,(fw==2)=b:=⟨_,rfl⟩
         have HB2:=Lib.hid hb2
         have z8:=cell_regrown d8
         have z1:=cell_regrown y1
         clear hz hfd h3 h1
         repeat (first|go_skip|go_guarded|go_step|go_upon)
         go_quiet (fail)
         repeat (first|go_skip|go_guarded|go_step|go_upon)
         go_ret2
         have hFB2:=HFu.out b2
         rw [HZ5.out] at hFB2 ⊢
         simp only at hFB2
         refine⟨⟨b2,rfl,?_⟩,HA6.out.later (NA.below_drewN HB6.out _)⟩
         rw [hFB2,HFd.out]
         intro _
         rw [<- HB2.out,Bool.eq_iff_iff]
         simp
      ·have hq1:(fa==(L:Int))=false:=by simpa using hea
       have hq2:(fa != (L:Int))=true:=by simpa using hea
       have HN3:=Lib.hid (HNo2.out hea)
       clear hea
       repeat (first|go_skip|go_guarded|go_step|go_upon)
       exact⟨⟨k2+1,by go_num,by omega,HN3.out,HB6.out⟩,by simp [Go.RowKit.intOf];omega⟩
     ·have hkz2:¬ (k2:Int)<nf:=by omega
      have hfd:fateD B=fateZ:=by
       unfold fateD
       rw [HBl.out]
       refine fate_none (fun j f hj hf=>HNo.out j f (by have:=HNf.out;omega) hf)
      have hz:=HZB.out
      rw [hfd] at hz
      have HZ5:Hid (Z=(B,0)):=Lib.hid hz
      have HFd:=Lib.hid hfd
      clear hz hfd hlt
      repeat (first|go_skip|go_guarded|go_step|go_upon)
      go_ret2
      have hFB2:=HFu.out false
      rw [HZ5.out] at hFB2 ⊢
      simp only at hFB2
      refine⟨⟨false,rfl,?_⟩,HA6.out.later HB6.out⟩
      rw [hFB2,HFd.out]
      intro _
      rfl
end RK
end Go.Proofs.YtmohjalanhnhbaaGreatDoor