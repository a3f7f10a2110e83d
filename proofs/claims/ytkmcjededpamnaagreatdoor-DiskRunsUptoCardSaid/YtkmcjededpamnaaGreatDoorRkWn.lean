import Derived.Test.YtkmcjededpamnaaGreatDoorMg19
import Derived.Test.YtkmcjededpamnaaGreatDoorMg3
import Derived.Test.YtkmcjededpamnaaGreatDoorMg15
import Derived.Test.YtkmcjededpamnaaGreatDoorMg16
import Derived.Test.YtkmcjededpamnaaGreatDoorMg22
import Derived.Test.YtkmcjededpamnaaGreatDoorMg17
import Derived.Test.YtkmcjededpamnaaGreatDoorDkAsk
set_option linter.all false
set_option maxRecDepth 100000
set_option maxHeartbeats 0
namespace Go.Proofs.YtkmcjededpamnaaGreatDoor
open Go.RowKit Go.Lib Go.BigFrame
namespace RK
open OM TP TM DP DM FP DG TG TR
def WantPost(w W:World)(S:Nat->Prop)(P m:Nat)(Z:Dk×Ans)(r:Ending)(W':World):Prop :=
 ∃ v,r=.returned (.tuple #[.int .i64 Z.2.err,ndVal Z.2.node,stampVal Z.2.stamp,v])/\W'.ownsRow W.heap.size 9 1 v Z.2.texts.length (Z.2.texts.map txt)/\RAftN w W S P m Z.1 v W'
theorem Ask5.keepR{W W5 W6:World}{k m:Int}{X Y V:ByteArray}{w:World}{S:Nat->Prop}{P n:Nat}{D:Dk}(h:Ask5 W W5 k m X Y V)(hd:RS w W S P n D)(ho:Out (fun k=>S k\/k=P) W5 W6) :
  W6.heap[W.heap.size+1]?=some (.cells #[.string ⟨#[]⟩,.int .i64 0,.string ⟨#[]⟩,.int .i64 0] 45 (0,0))/\W6.heap[W.heap.size+1+1]?=some (.cells #[.int .i64 0,.int .i64 0,.int .i64 0] 47 (0,0)) /\
  W6.heap[W.heap.size+1+1+1]?=some (.cells #[.string ⟨#[]⟩,.int .i64 0,.string ⟨#[]⟩,.int .i64 0] 45 (0,0))/\W6.heap[W.heap.size+1+1+1+1]?=some (.cells #[.int .i64 0,.int .i64 0,.int .i64 0] 47 (0,0)):=by
 obtain⟨h1,h2⟩:=hd.lts
 have hn:∀ j,W.heap.size<=j->¬(S j\/j=P):=fun j hj hh=>by
  rcases hh with hh|hh
  ·have:=h2 j hh;omega
  ·omega
 exact⟨ho.row h.r1 (hn _ (by omega)),ho.row h.r2 (hn _ (by omega)),ho.row h.r3 (hn _ (by omega)),ho.row h.r4 (hn _ (by omega))⟩
theorem want_done{w W W5 W6 W7:World}{S S6:Nat->Prop}{P n n':Nat}{D D':Dk}{v:Value}(h:RS w W S P n D)(hb:Below W.heap.size W W5)(hz:W.heap.size+5<=W5.heap.size)(h6:RS w W6 S6 P n' D')(hs:∀ k,S6 k->S k\/W5.heap.size<=k)(ho:Out (fun k=>S k\/k=P) W5 W6)
  (ho7:Out (fun k=>W.heap.size+1<=k/\k<=W.heap.size+4) W6 W7) (hv:∀ g,v.ownBlock=some g->¬ S6 g/\g≠P):RAftN w W S P n' D' v W7:=by
 obtain⟨h1,h2⟩:=h.lts
 have a5:w.heap.size<=W.heap.size:=by
  obtain⟨x,hx⟩:=h;exact hx.bel.size
 refine⟨S6,h6.out ho7 (fun k hk=>⟨fun hh=>?_,by omega,by omega⟩),fun k hk=>(hs k hk).imp id (fun hh=>by omega),?_,hv⟩
 ·rcases hs k hh with h3|h3
  ·have:=h2 k h3;omega
  ·omega
 ·exact(((Out.refl _ W).thenBelow hb).then ho (fun j _ hj=>hj)).then ho7 (fun j hj hk=>by omega)
theorem farg_none(w:World):FArg w none []:=⟨(fun ad h=>by cases h),(fun ad h=>by cases h),(fun _=>rfl),Nat.zero_le _⟩
theorem edarg_none(w:World):EdArg w none 0 [] []:=⟨(fun h0=>absurd h0 (by simp)),rfl,(fun j e v h=>by simp at h),(fun _=>rfl),Nat.le_refl _⟩
theorem V.ask{D:Dk}(h:RK.V D)(c:Cal):RK.V (askD D c).1:=by
 unfold askD;by_cases h0:c.what=0
 ·rw[if_pos h0];exact h.write _ _ _
 rw[if_neg h0];by_cases h1:c.what=1
 ·rw[if_pos h1];exact h.mkdir _
 rw[if_neg h1];by_cases h2:c.what=2
 ·rw[if_pos h2];exact h.link _ _
 rw[if_neg h2];by_cases h3:c.what=3
 ·rw[if_pos h3];exact h.remove _
 rw[if_neg h3];by_cases h4:c.what=4
 ·rw[if_pos h4];exact h.move _ _
 rw[if_neg h4];by_cases h5:c.what=5
 ·rw[if_pos h5];exact h.replace _ _
 rw[if_neg h5];by_cases h6:c.what=6
 ·rw[if_pos h6];exact h.sync _
 rw[if_neg h6];by_cases h7:c.what=7
 ·rw[if_pos h7];exact h.flush
 rw[if_neg h7];by_cases h8:c.what=8
 ·rw[if_pos h8];exact h.get _
 rw[if_neg h8];by_cases h9:c.what=9
 ·rw[if_pos h9];have ah:=h.namesD c.path;rw[DG.names_eq]at ah;exact ah
 rw[if_neg h9];by_cases ah:c.what=10
 ·rw[if_pos ah];exact h.boot [] (fun e he=>by cases he)
 rw[if_neg ah];exact h
theorem want_err{w W:World}{S:Nat->Prop}{P m:Nat}{D:Dk}(h:RS w W S P m D)(hv:RK.V D)(hm:m+1<=1000)(c:Cal)(hk:0<=c.what/\c.what<=7)(hp:c.path.length<=1048576)(hq:c.dest.length<=1048576) :
  Calls Tryz.prog 20 #[.pointer (some ⟨P,0,none⟩),calV c] W (WantPost w W S P (m+1) (askD D c)):=by
 rw[ask_errD D c hk];obtain⟨wh,p,q,dt,md⟩:=c;simp only at hk hp hq;obtain⟨X,hX,-⟩:=txt_of p;obtain⟨Y,hY,-⟩:=txt_of q;obtain⟨V,hV,-⟩:=txt_of dt;obtain⟨Z,hZ⟩:∃ Z,errD D ⟨wh,p,q,dt,md⟩=Z:=⟨_,rfl⟩;have aa:=hid (ask5_is W wh md X Y V);have hw:wh=0\/wh=1\/wh=2\/wh=3\/wh=4\/wh=5\/wh=6\/wh=7:=by omega
 have C0:Hid (wh=0->∀ W5,Below W.heap.size W W5->Calls Tryz.prog 76 #[.pointer (some ⟨P,0,none⟩),.string X,.string V,.int .i64 md] W5 fun r W6=>r=.returned (.int .i64 Z.2)/\RAft w W5 S P (m+1) Z.1 W6):=hid (fun h0 W5 hb=>by
  subst h0;rw[<- hZ,← hX,← hV]
  exact kwrite_any w W5 S P m D p dt md (h.below hb) hv hm hp)
 have C1:Hid (wh=1->∀ W5,Below W.heap.size W W5->Calls Tryz.prog 77 #[.pointer (some ⟨P,0,none⟩),.string X] W5 fun r W6=>r=.returned (.int .i64 Z.2)/\RAft w W5 S P (m+1) Z.1 W6):=hid (fun h0 W5 hb=>by
  subst h0;rw[<- hZ,← hX]
  exact kmkdir_any w W5 S P m D p (h.below hb) hv hm hp)
 have C2:Hid (wh=2->∀ W5,Below W.heap.size W W5->Calls Tryz.prog 78 #[.pointer (some ⟨P,0,none⟩),.string X,.string Y] W5 fun r W6=>r=.returned (.int .i64 Z.2)/\RAft w W5 S P (m+1) Z.1 W6):=hid (fun h0 W5 hb=>by
  subst h0;rw[<- hZ,← hX,← hY]
  exact klink_any w W5 S P m D p q (h.below hb) hv hm hp hq)
 have C3:Hid (wh=3->∀ W5,Below W.heap.size W W5->Calls Tryz.prog 79 #[.pointer (some ⟨P,0,none⟩),.string X] W5 fun r W6=>r=.returned (.int .i64 Z.2)/\RAft w W5 S P (m+1) Z.1 W6):=hid (fun h0 W5 hb=>by
  subst h0;rw[<- hZ,← hX]
  exact kremove_any w W5 S P m D p (h.below hb) hv hm hp)
 have C4:Hid (wh=4->∀ W5,Below W.heap.size W W5->Calls Tryz.prog 80 #[.pointer (some ⟨P,0,none⟩),.string X,.string Y] W5 fun r W6=>r=.returned (.int .i64 Z.2)/\RAft w W5 S P (m+1) Z.1 W6):=hid (fun h0 W5 hb=>by
  subst h0;rw[<- hZ,← hX,← hY]
  exact kmove_any w W5 S P m D p q (h.below hb) hv hm hp hq)
 have C5:Hid (wh=5->∀ W5,Below W.heap.size W W5->Calls Tryz.prog 81 #[.pointer (some ⟨P,0,none⟩),.string X,.string Y] W5 fun r W6=>r=.returned (.int .i64 Z.2)/\RAft w W5 S P (m+1) Z.1 W6):=hid (fun h0 W5 hb=>by
  subst h0;rw[<- hZ,← hX,← hY]
  exact kreplace_any w W5 S P m D p q (h.below hb) hv hm hp hq)
 have C6:Hid (wh=6->∀ W5,Below W.heap.size W W5->Calls Tryz.prog 82 #[.pointer (some ⟨P,0,none⟩),.string X] W5 fun r W6=>r=.returned (.int .i64 Z.2)/\RAft w W5 S P (m+1) Z.1 W6):=hid (fun h0 W5 hb=>by
  subst h0;rw[<- hZ,← hX]
  exact ksync_any w W5 S P m D p (h.below hb) hv hm hp)
 have C7:Hid (wh=7->∀ W5,Below W.heap.size W W5->Calls Tryz.prog 83 #[.pointer (some ⟨P,0,none⟩)] W5 fun r W6=>r=.returned (.int .i64 Z.2)/\RAft w W5 S P (m+1) Z.1 W6):=hid (fun h0 W5 hb=>by
  subst h0;rw[<- hZ]
  exact kflush_any w W5 S P m D (h.below hb) hv hm)
 have HD:=hid h;unfold calV;simp only;rw[hZ,hX,hY,hV];obtain⟨W5,ab⟩:∃ z,ask5 W wh md X Y V=z:=⟨_,rfl⟩;rw[ab]at aa;unfold ask5 at ab;obtain⟨d0,d1,d2,d3,d4,d5⟩:=row5c aa.out.r0;obtain⟨-,-,-,-,tf⟩:=row4 aa.out.r3;clear h hv hm hk hp hq hX hY hV hZ;rcases hw with rfl|rfl|rfl|rfl|rfl|rfl|rfl|rfl
 all_goals
  go_enter Tryz.func20,Tryz.ntmps20;repeat (first|go_skip|go_guarded|go_step|go_upon)
  try rw[ab]
  first|refine(C0.out rfl W5 aa.out.bel).mono ?_|refine(C1.out rfl W5 aa.out.bel).mono ?_|refine(C2.out rfl W5 aa.out.bel).mono ?_|refine(C3.out rfl W5 aa.out.bel).mono ?_|refine(C4.out rfl W5 aa.out.bel).mono ?_|refine(C5.out rfl W5 aa.out.bel).mono ?_|refine(C6.out rfl W5 aa.out.bel).mono ?_|refine(C7.out rfl W5 aa.out.bel).mono ?_
  rintro r W6 ⟨rfl,S6,h6,ag,ac⟩;simp only[];obtain⟨r1,r2,r3,r4⟩:=Ask5.keepR aa.out HD.out ac;obtain⟨t0,t1,t2,t3,tf⟩:=row4 r1;obtain⟨s0,s1,s2,sf⟩:=row3 r2;obtain⟨y0,y1,y2,y3,yf⟩:=row4 r3;obtain⟨x0,x1,x2,xf⟩:=row3 r4;have H6:=hid h6;have ai:=hid ag;have aj:=hid ac;clear h6 ag ac r1 r2 r3 r4 d0 d1 d2 d3 d4 d5;repeat (first|go_skip|go_guarded|go_step|go_upon)
  go_region;repeat (first|go_skip|go_guarded|go_step|go_upon)
  refine bodyPost_ret (v:=.tuple #[.int .i64 Z.2,.agg #[.string ⟨#[]⟩,.int .i64 0,.string ⟨#[]⟩,.int .i64 0],.agg #[.int .i64 0,.int .i64 0,.int .i64 0],.slice none 0 0]) ?_ rfl ⟨.slice none 0 0,rfl,World.ownsRow_nil _ _ _ _,want_done HD.out aa.out.bel aa.out.size H6.out ai.out aj.out ?_ (fun g hg=>by cases hg)⟩
  ·rw[results_ask rfl];go_simp
  ·exact out_ask7 _ _ _ _ _ _ _ _ _
theorem want_get{w W:World}{S:Nat->Prop}{P m:Nat}{D:Dk}(h:RS w W S P m D)(hv:RK.V D)(hm:m+1<=1000)(c:Cal)(hk:c.what=8)(hp:c.path.length<=1048576)(hq:c.dest.length<=1048576) :
  Calls Tryz.prog 20 #[.pointer (some ⟨P,0,none⟩),calV c] W (WantPost w W S P (m+1) (askD D c)):=by
 obtain⟨wh,p,q,dt,md⟩:=c;simp only at hk hp hq;subst hk;obtain⟨X,hX,ak⟩:=txt_of p;obtain⟨Y,hY,al⟩:=txt_of q;obtain⟨V,hV,am⟩:=txt_of dt;have HA:Hid (askD D ⟨8,p,q,dt,md⟩=((DP.getD D p).1,⟨(DP.getD D p).2.2.2,(DP.getD D p).2.1,(DP.getD D p).2.2.1,[]⟩)):=hid (by unfold askD;rw[if_neg (show ¬((8:Int)=0) by decide)];rw[if_neg (show ¬((8:Int)=1) by decide)];rw[if_neg (show ¬((8:Int)=2) by decide)];rw[if_neg (show ¬((8:Int)=3) by decide)];rw[if_neg (show ¬((8:Int)=4) by decide)];rw[if_neg (show ¬((8:Int)=5) by decide)];rw[if_neg (show ¬((8:Int)=6) by decide)];rw[if_neg (show ¬((8:Int)=7) by decide)];rw[if_pos rfl]);have aa:=hid (ask5_is W 8 md X Y V)
 have CX:Hid (∀ W5,Ask5 W W5 8 md X Y V->Calls Tryz.prog 84 #[.pointer (some ⟨P,0,none⟩),.string X] W5 fun r W6=>r=.returned (.tuple #[ndVal (DP.getD D p).2.1,stampVal (DP.getD D p).2.2.1,.int .i64 (DP.getD D p).2.2.2])/\RAft w W5 S P (m+1) (DP.getD D p).1 W6):=hid (fun W5 h5=>by
  have h':=h.below h5.bel;have:=kget_any w W5 S P m D p h' hv hm hp;rw[hX]at this
  exact this)
 have HD:=hid h;unfold calV;simp only;rw[HA.out,hX,hY,hV];obtain⟨W5,ab⟩:∃ z,ask5 W 8 md X Y V=z:=⟨_,rfl⟩;rw[ab]at aa;unfold ask5 at ab;obtain⟨Zg,ax⟩:∃ z,DP.getD D p=z:=⟨_,rfl⟩;rw[ax]at CX ⊢;obtain⟨E9,⟨gp,gk,gd,gm⟩,⟨az,a0,a1⟩,ge⟩:=Zg;obtain⟨X1,aq,_⟩:=txt_of gp;obtain⟨X2,ap,_⟩:=txt_of gd;unfold ndVal stampVal at CX;simp only at CX ⊢;rw[aq,ap]at CX;have ay:=hid aq;have a3:=hid ap;clear ax aq ap;obtain⟨d0,d1,d2,d3,d4,d5⟩:=row5c aa.out.r0;obtain⟨-,-,-,-,tf⟩:=row4 aa.out.r3;have CY:=hid (CX.out W5 aa.out);clear h hv hm hp hq hX hY hV ak al am;go_enter Tryz.func20,Tryz.ntmps20;repeat (first|go_skip|go_guarded|go_step|go_upon)
 try rw[ab]
 refine CY.out.mono ?_;rintro r W6 ⟨rfl,S6,h6,ag,ac⟩;simp only[];obtain⟨r1,r2,r3,r4⟩:=Ask5.keepR aa.out HD.out ac;obtain⟨t0,t1,t2,t3,tf⟩:=row4 r1;obtain⟨s0,s1,s2,sf⟩:=row3 r2;obtain⟨y0,y1,y2,y3,yf⟩:=row4 r3;obtain⟨x0,x1,x2,xf⟩:=row3 r4;have H6:=hid h6;have ai:=hid ag;have aj:=hid ac;clear h6 ag ac r1 r2 r3 r4 d0 d1 d2 d3 d4 d5;repeat (first|go_skip|go_guarded|go_step|go_upon)
 go_region;repeat (first|go_skip|go_guarded|go_step|go_upon)
 refine bodyPost_ret (v:=.tuple #[.int .i64 ge,.agg #[.string X1,.int .i64 gk,.string X2,.int .i64 gm],.agg #[.int .i64 az,.int .i64 a0,.int .i64 a1],.slice none 0 0]) ?_ rfl ⟨.slice none 0 0,?_,World.ownsRow_nil _ _ _ _,want_done HD.out aa.out.bel aa.out.size H6.out ai.out aj.out ?_ (fun g hg=>by cases hg)⟩
 ·rw[results_ask rfl];go_simp
 ·unfold ndVal stampVal;simp only;rw[ay.out,a3.out]
 ·exact out_ask14 _ _ _ _ _ _ _ _ _ _ _ _ _ _ _ _
theorem want_names{w W:World}{S:Nat->Prop}{P m:Nat}{D:Dk}(h:RS w W S P m D)(hv:RK.V D)(hm:m+1<=1000)(c:Cal)(hk:c.what=9)(hp:c.path.length<=1048576)(hq:c.dest.length<=1048576) :
  Calls Tryz.prog 20 #[.pointer (some ⟨P,0,none⟩),calV c] W (WantPost w W S P (m+1) (askD D c)):=by
 obtain⟨wh,p,q,dt,md⟩:=c;simp only at hk hp hq;subst hk;obtain⟨X,hX,ak⟩:=txt_of p;obtain⟨Y,hY,al⟩:=txt_of q;obtain⟨V,hV,am⟩:=txt_of dt;have HA:Hid (askD D ⟨9,p,q,dt,md⟩=((namesR D p).1,⟨(namesR D p).2,nodeZ,stampZ,lastsR (namesR D p) p⟩)):=hid (by unfold askD;rw[if_neg (show ¬((9:Int)=0) by decide)];rw[if_neg (show ¬((9:Int)=1) by decide)];rw[if_neg (show ¬((9:Int)=2) by decide)];rw[if_neg (show ¬((9:Int)=3) by decide)];rw[if_neg (show ¬((9:Int)=4) by decide)];rw[if_neg (show ¬((9:Int)=5) by decide)];rw[if_neg (show ¬((9:Int)=6) by decide)];rw[if_neg (show ¬((9:Int)=7) by decide)];rw[if_neg (show ¬((9:Int)=8) by decide)];rw[if_pos rfl]);have aa:=hid (ask5_is W 9 md X Y V)
 have CX:Hid (∀ W5,Ask5 W W5 9 md X Y V->Calls Tryz.prog 85 #[.pointer (some ⟨P,0,none⟩),.string X] W5 fun r W6=>∃ v,r=.returned (.tuple #[v,.int .i64 (namesR D p).2])/\W6.ownsRow W5.heap.size 9 1 v (lastsR (namesR D p) p).length ((lastsR (namesR D p) p).map txt)/\RAftN w W5 S P (m+1) (namesR D p).1 v W6):=hid (fun W5 h5=>by
  have h':=h.below h5.bel;have:=kin_any w W5 S P m D p h' hv hm hp;rw[hX]at this
  exact this)
 have HD:=hid h;unfold calV;simp only;rw[HA.out,hX,hY,hV];obtain⟨W5,ab⟩:∃ z,ask5 W 9 md X Y V=z:=⟨_,rfl⟩;rw[ab]at aa;unfold ask5 at ab;obtain⟨d0,d1,d2,d3,d4,d5⟩:=row5c aa.out.r0;obtain⟨-,-,-,-,tf⟩:=row4 aa.out.r3;have CY:=hid (CX.out W5 aa.out);clear h hv hm hp hq hX hY hV ak al am;go_enter Tryz.func20,Tryz.ntmps20;repeat (first|go_skip|go_guarded|go_step|go_upon)
 try rw[ab]
 refine CY.out.mono ?_;rintro r W6 ⟨v,rfl,ho,S6,h6,ag,ac,aw⟩;obtain⟨av,cv,hv,_⟩:=owns_view ho;obtain⟨nv,ao⟩:∃ n,(lastsR (namesR D p) p).length=n:=⟨_,rfl⟩;have ar:=hid ao;rw[ao]at hv;subst hv;have au:=hid ho;have a2:=hid aw;clear ho aw ao;simp only[];obtain⟨r1,r2,r3,r4⟩:=Ask5.keepR aa.out HD.out ac;obtain⟨t0,t1,t2,t3,tf⟩:=row4 r1;obtain⟨s0,s1,s2,sf⟩:=row3 r2;obtain⟨y0,y1,y2,y3,yf⟩:=row4 r3;obtain⟨x0,x1,x2,xf⟩:=row3 r4;have H6:=hid h6;have ai:=hid ag;have aj:=hid ac;clear h6 ag ac r1 r2 r3 r4 d0 d1 d2 d3 d4 d5;repeat (first|go_skip|go_guarded|go_step|go_upon)
 go_region;repeat (first|go_skip|go_guarded|go_step|go_upon)
 refine bodyPost_ret (v:=.tuple #[.int .i64 (namesR D p).2,.agg #[.string ⟨#[]⟩,.int .i64 0,.string ⟨#[]⟩,.int .i64 0],.agg #[.int .i64 0,.int .i64 0,.int .i64 0],.slice av nv cv]) ?_ rfl ⟨.slice av nv cv,rfl,?_,want_done HD.out aa.out.bel aa.out.size H6.out ai.out aj.out ?_ a2.out⟩
 ·rw[results_ask rfl];go_simp
 ·rw[ar.out];have h1:=owns_base au.out W.heap.size aa.out.bel.size;rw[ar.out]at h1
  refine Out.owns (S:=fun k=>W.heap.size+1<=k/\k<=W.heap.size+4) (w:=W6) ?_ h1 (fun g hg=>by
   have:=(au.out.lt g (by rw[<- hg])).1;have:=aa.out.size
   omega)
  exact out_ask7 _ _ _ _ _ _ _ _ _
 ·exact out_ask7 _ _ _ _ _ _ _ _ _
theorem want_boot{w W:World}{S:Nat->Prop}{P m:Nat}{D:Dk}(h:RS w W S P m D)(hv:RK.V D)(hm:m+1<=1000)(c:Cal)(hk:c.what=10)(hp:c.path.length<=1048576)(hq:c.dest.length<=1048576) :
  Calls Tryz.prog 20 #[.pointer (some ⟨P,0,none⟩),calV c] W (WantPost w W S P (m+1) (askD D c)):=by
 obtain⟨wh,p,q,dt,md⟩:=c;simp only at hk hp hq;subst hk;obtain⟨X,hX,ak⟩:=txt_of p;obtain⟨Y,hY,al⟩:=txt_of q;obtain⟨V,hV,am⟩:=txt_of dt;have HA:Hid (askD D ⟨10,p,q,dt,md⟩=(bootD D [] [],errA 0)):=hid (by unfold askD;rw[if_neg (show ¬((10:Int)=0) by decide)];rw[if_neg (show ¬((10:Int)=1) by decide)];rw[if_neg (show ¬((10:Int)=2) by decide)];rw[if_neg (show ¬((10:Int)=3) by decide)];rw[if_neg (show ¬((10:Int)=4) by decide)];rw[if_neg (show ¬((10:Int)=5) by decide)];rw[if_neg (show ¬((10:Int)=6) by decide)];rw[if_neg (show ¬((10:Int)=7) by decide)];rw[if_neg (show ¬((10:Int)=8) by decide)];rw[if_neg (show ¬((10:Int)=9) by decide)];rw[if_pos rfl]);have aa:=hid (ask5_is W 10 md X Y V)
 have CX:Hid (∀ W5,Ask5 W W5 10 md X Y V->Calls Tryz.prog 18 #[.pointer (some ⟨P,0,none⟩),.slice none 0 0,.slice none 0 0] W5 fun r W6=>r=.returned (.tuple #[])/\RAft w W5 S P (m+1) (bootD D [] []) W6):=hid (fun W5 h5=>by
  have h':=h.below h5.bel;refine(kboot_any w W5 S P m D h' [] none 0 [] [] none 0 (farg_none w) (edarg_none w) (by simp) (fun e he=>by cases he)).mono ?_;rintro r W6 ⟨hr,S6,h6,h7,h8⟩
  exact⟨hr,S6,h6.mono (by omega),h7,h8⟩)
 have HD:=hid h;unfold calV;simp only;rw[HA.out,hX,hY,hV];obtain⟨W5,ab⟩:∃ z,ask5 W 10 md X Y V=z:=⟨_,rfl⟩;rw[ab]at aa;unfold ask5 at ab;obtain⟨d0,d1,d2,d3,d4,d5⟩:=row5c aa.out.r0;obtain⟨-,-,-,-,tf⟩:=row4 aa.out.r3;have CY:=hid (CX.out W5 aa.out);clear h hv hm hp hq hX hY hV ak al am;go_enter Tryz.func20,Tryz.ntmps20;repeat (first|go_skip|go_guarded|go_step|go_upon)
 try rw[ab]
 refine CY.out.mono ?_;rintro r W6 ⟨rfl,S6,h6,ag,ac⟩;simp only[];obtain⟨r1,r2,r3,r4⟩:=Ask5.keepR aa.out HD.out ac;obtain⟨t0,t1,t2,t3,tf⟩:=row4 r1;obtain⟨s0,s1,s2,sf⟩:=row3 r2;obtain⟨y0,y1,y2,y3,yf⟩:=row4 r3;obtain⟨x0,x1,x2,xf⟩:=row3 r4;have H6:=hid h6;have ai:=hid ag;have aj:=hid ac;clear h6 ag ac r1 r2 r3 r4 d0 d1 d2 d3 d4 d5;repeat (first|go_skip|go_guarded|go_step|go_upon)
 go_region;repeat (first|go_skip|go_guarded|go_step|go_upon)
 refine bodyPost_ret (v:=.tuple #[.int .i64 0,.agg #[.string ⟨#[]⟩,.int .i64 0,.string ⟨#[]⟩,.int .i64 0],.agg #[.int .i64 0,.int .i64 0,.int .i64 0],.slice none 0 0]) ?_ rfl ⟨.slice none 0 0,rfl,World.ownsRow_nil _ _ _ _,want_done HD.out aa.out.bel aa.out.size H6.out ai.out aj.out ?_ (fun g hg=>by cases hg)⟩
 ·rw[results_ask rfl];go_simp
 ·exact out_ask7 _ _ _ _ _ _ _ _ _
theorem want_none{w W:World}{S:Nat->Prop}{P m:Nat}{D:Dk}(h:RS w W S P m D)(hv:RK.V D)(hm:m+1<=1000)(c:Cal)(hk:c.what≠0/\c.what≠1/\c.what≠2/\c.what≠3/\c.what≠4/\c.what≠5/\c.what≠6/\c.what≠7/\c.what≠8/\c.what≠9/\c.what≠10)(hp:c.path.length<=1048576)(hq:c.dest.length<=1048576) :
  Calls Tryz.prog 20 #[.pointer (some ⟨P,0,none⟩),calV c] W (WantPost w W S P (m+1) (askD D c)):=by
 obtain⟨wh,p,q,dt,md⟩:=c;simp only at hk hp hq;obtain⟨X,hX,ak⟩:=txt_of p;obtain⟨Y,hY,al⟩:=txt_of q;obtain⟨V,hV,am⟩:=txt_of dt;have HA:Hid (askD D ⟨wh,p,q,dt,md⟩=(D,errA 0)):=hid (by obtain⟨h0,h1,h2,h3,h4,h5,h6,h7,h8,h9,ah⟩:=hk;unfold askD;rw[if_neg h0,if_neg h1,if_neg h2,if_neg h3,if_neg h4,if_neg h5,if_neg h6,if_neg h7,if_neg h8,if_neg h9,if_neg ah]);obtain⟨h0,h1,h2,h3,h4,h5,h6,h7,h8,h9,ah⟩:=hk;have b0:(wh==0)=false:=by simpa using h0
 have b1:(wh==1)=false:=by simpa using h1
 have b2:(wh==2)=false:=by simpa using h2
 have b3:(wh==3)=false:=by simpa using h3
 have b4:(wh==4)=false:=by simpa using h4
 have b5:(wh==5)=false:=by simpa using h5
 have b6:(wh==6)=false:=by simpa using h6
 have b7:(wh==7)=false:=by simpa using h7
 have b8:(wh==8)=false:=by simpa using h8
 have b9:(wh==9)=false:=by simpa using h9
 have a4:(wh==10)=false:=by simpa using ah
 clear h0 h1 h2 h3 h4 h5 h6 h7 h8 h9 ah;have aa:=hid (ask5_is W wh md X Y V)
 have CX:Hid (∀ W5,Ask5 W W5 wh md X Y V->RS w W5 S P (m+1) D/\(∀ k,S k->S k\/W5.heap.size<=k)/\Out (fun k=>S k\/k=P) W5 W5):=hid (fun W5 h5=>by
  have h':=h.below h5.bel
  exact⟨h'.mono (by omega),fun k hk=>.inl hk,Out.refl _ _⟩)
 have HD:=hid h;unfold calV;simp only;rw[HA.out,hX,hY,hV];obtain⟨W5,ab⟩:∃ z,ask5 W wh md X Y V=z:=⟨_,rfl⟩;rw[ab]at aa;unfold ask5 at ab;obtain⟨d0,d1,d2,d3,d4,d5⟩:=row5c aa.out.r0;obtain⟨-,-,-,-,tf⟩:=row4 aa.out.r3;have CY:=hid (CX.out W5 aa.out);clear h hv hm hp hq hX hY hV ak al am;go_enter Tryz.func20,Tryz.ntmps20;repeat (first|go_skip|go_guarded|go_step|go_upon)
 try rw[ab]
 have h6:=CY.out.1;have ag:=CY.out.2.1;have ac:=CY.out.2.2;obtain⟨r1,r2,r3,r4⟩:=Ask5.keepR aa.out HD.out ac;obtain⟨t0,t1,t2,t3,tf⟩:=row4 r1;obtain⟨s0,s1,s2,sf⟩:=row3 r2;obtain⟨y0,y1,y2,y3,yf⟩:=row4 r3;obtain⟨x0,x1,x2,xf⟩:=row3 r4;have H6:=hid h6;have ai:=hid ag;have aj:=hid ac;clear h6 ag ac r1 r2 r3 r4;repeat (first|go_skip|go_guarded|go_step|go_upon)
 go_region;repeat (first|go_skip|go_guarded|go_step|go_upon)
 refine bodyPost_ret (v:=.tuple #[.int .i64 0,.agg #[.string ⟨#[]⟩,.int .i64 0,.string ⟨#[]⟩,.int .i64 0],.agg #[.int .i64 0,.int .i64 0,.int .i64 0],.slice none 0 0]) ?_ rfl ⟨.slice none 0 0,rfl,World.ownsRow_nil _ _ _ _,want_done HD.out aa.out.bel aa.out.size H6.out ai.out aj.out ?_ (fun g hg=>by cases hg)⟩
 ·rw[results_ask rfl];go_simp
 ·exact out_ask7 _ _ _ _ _ _ _ _ _
theorem want_any{w W:World}{S:Nat->Prop}{P m:Nat}{D:Dk}(h:RS w W S P m D)(hv:RK.V D)(hm:m+1<=1000)(c:Cal)(hp:c.path.length<=1048576)(hq:c.dest.length<=1048576) :
  Calls Tryz.prog 20 #[.pointer (some ⟨P,0,none⟩),calV c] W (WantPost w W S P (m+1) (askD D c)):=by
 by_cases h7:0<=c.what/\c.what<=7
 ·exact want_err h hv hm c h7 hp hq
 by_cases h8:c.what=8
 ·exact want_get h hv hm c h8 hp hq
 by_cases h9:c.what=9
 ·exact want_names h hv hm c h9 hp hq
 by_cases ah:c.what=10
 ·exact want_boot h hv hm c ah hp hq
 exact want_none h hv hm c ⟨by omega,by omega,by omega,by omega,by omega,by omega,by omega,by omega,h8,h9,ah⟩ hp hq
end RK
end Go.Proofs.YtkmcjededpamnaaGreatDoor