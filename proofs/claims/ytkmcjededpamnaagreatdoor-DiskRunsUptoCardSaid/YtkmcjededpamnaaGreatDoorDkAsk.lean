import Derived.Test.YtkmcjededpamnaaGreatDoorMg11
import Derived.Test.YtkmcjededpamnaaGreatDoorMg3
set_option linter.all false
set_option maxRecDepth 100000
set_option maxHeartbeats 0
namespace Go.Proofs.YtkmcjededpamnaaGreatDoor
open Go.RowKit Go.Lib Go.BigFrame
namespace DG
open OM TP TM DP DM TG TR FP
def errD(D:Dk)(c:Cal):Dk×Int :=
 if c.what=0 then writeD D c.path c.data c.mode else if c.what=1 then mkdirD D c.path else if c.what=2 then linkD D c.path c.dest else if c.what=3 then removeD D c.path
 else if c.what=4 then moveD D c.path c.dest else if c.what=5 then replaceD D c.path c.dest else if c.what=6 then syncD D c.path else flushD D
theorem ask_errD(D:Dk)(c:Cal)(h:0<=c.what/\c.what<=7):askD D c=((errD D c).1,errA (errD D c).2):=by
 unfold askD errD;by_cases h0:c.what=0
 ·rw[if_pos h0,if_pos h0]
 by_cases h1:c.what=1
 ·rw[if_neg h0,if_neg h0,if_pos h1,if_pos h1]
 by_cases h2:c.what=2
 ·rw[if_neg h0,if_neg h0,if_neg h1,if_neg h1,if_pos h2,if_pos h2]
 by_cases h3:c.what=3
 ·rw[if_neg h0,if_neg h0,if_neg h1,if_neg h1,if_neg h2,if_neg h2,if_pos h3,if_pos h3]
 by_cases h4:c.what=4
 ·rw[if_neg h0,if_neg h0,if_neg h1,if_neg h1,if_neg h2,if_neg h2,if_neg h3,if_neg h3,if_pos h4,if_pos h4]
 by_cases h5:c.what=5
 ·rw[if_neg h0,if_neg h0,if_neg h1,if_neg h1,if_neg h2,if_neg h2,if_neg h3,if_neg h3,if_neg h4,if_neg h4,if_pos h5,if_pos h5]
 by_cases h6:c.what=6
 ·rw[if_neg h0,if_neg h0,if_neg h1,if_neg h1,if_neg h2,if_neg h2,if_neg h3,if_neg h3,if_neg h4,if_neg h4,if_neg h5,if_neg h5,if_pos h6,if_pos h6]
 ·have h7:c.what=7:=by omega
  rw[if_neg h0,if_neg h0,if_neg h1,if_neg h1,if_neg h2,if_neg h2,if_neg h3,if_neg h3,if_neg h4,if_neg h4,if_neg h5,if_neg h5,if_neg h6,if_neg h6,if_pos h7]
theorem ask_err{w W:World}{S:Nat->Prop}{P m:Nat}{D:Dk}(h:DS w W S P m D)(he:NF.Env w)(hm:m<=100000)(c:Cal)(hk:0<=c.what/\c.what<=7)(hp:c.path.length<=maxLen)(hq:c.dest.length<=maxLen) :
  Calls Tryz.prog 19 #[.pointer (some ⟨P,0,none⟩),calV c] W (AskPost w W S P (m+1) (askD D c)):=by
 rw[ask_errD D c hk];obtain⟨wh,p,q,dt,md⟩:=c;simp only at hk hp hq;obtain⟨X,hX,-⟩:=txt_of p;obtain⟨Y,hY,-⟩:=txt_of q;obtain⟨V,hV,-⟩:=txt_of dt;obtain⟨Z,hZ⟩:∃ Z,errD D ⟨wh,p,q,dt,md⟩=Z:=⟨_,rfl⟩;have aa:=hid (ask5_is W wh md X Y V);have hw:wh=0\/wh=1\/wh=2\/wh=3\/wh=4\/wh=5\/wh=6\/wh=7:=by omega
 have C0:Hid (wh=0->∀ W5,Below W.heap.size W W5->Calls Tryz.prog 12 #[.pointer (some ⟨P,0,none⟩),.string X,.string V,.int .i64 md] W5 fun r W6=>r=.returned (.int .i64 Z.2)/\Aft w W5 S P (m+1) Z.1 W6):=hid (fun h0 W5 hb=>by
  subst h0;rw[<- hZ,← hX,← hV]
  exact(h.below hb).write he hm p dt md (by exact hp))
 have C1:Hid (wh=1->∀ W5,Below W.heap.size W W5->Calls Tryz.prog 72 #[.pointer (some ⟨P,0,none⟩),.string X] W5 fun r W6=>r=.returned (.int .i64 Z.2)/\Aft w W5 S P (m+1) Z.1 W6):=hid (fun h0 W5 hb=>by
  subst h0;rw[<- hZ,← hX]
  exact(h.below hb).mkdir he hm p hp)
 have C2:Hid (wh=2->∀ W5,Below W.heap.size W W5->Calls Tryz.prog 73 #[.pointer (some ⟨P,0,none⟩),.string X,.string Y] W5 fun r W6=>r=.returned (.int .i64 Z.2)/\Aft w W5 S P (m+1) Z.1 W6):=hid (fun h0 W5 hb=>by
  subst h0;rw[<- hZ,← hX,← hY]
  exact(h.below hb).link he hm p q hp hq)
 have C3:Hid (wh=3->∀ W5,Below W.heap.size W W5->Calls Tryz.prog 47 #[.pointer (some ⟨P,0,none⟩),.string X] W5 fun r W6=>r=.returned (.int .i64 Z.2)/\Aft w W5 S P (m+1) Z.1 W6):=hid (fun h0 W5 hb=>by
  subst h0;rw[<- hZ,← hX]
  exact(h.below hb).remove he hm p hp)
 have C4:Hid (wh=4->∀ W5,Below W.heap.size W W5->Calls Tryz.prog 48 #[.pointer (some ⟨P,0,none⟩),.string X,.string Y] W5 fun r W6=>r=.returned (.int .i64 Z.2)/\Aft w W5 S P (m+1) Z.1 W6):=hid (fun h0 W5 hb=>by
  subst h0;rw[<- hZ,← hX,← hY]
  exact(h.below hb).move he hm p q hp hq)
 have C5:Hid (wh=5->∀ W5,Below W.heap.size W W5->Calls Tryz.prog 49 #[.pointer (some ⟨P,0,none⟩),.string X,.string Y] W5 fun r W6=>r=.returned (.int .i64 Z.2)/\Aft w W5 S P (m+1) Z.1 W6):=hid (fun h0 W5 hb=>by
  subst h0;rw[<- hZ,← hX,← hY]
  exact(h.below hb).replace he hm p q hp hq)
 have C6:Hid (wh=6->∀ W5,Below W.heap.size W W5->Calls Tryz.prog 50 #[.pointer (some ⟨P,0,none⟩),.string X] W5 fun r W6=>r=.returned (.int .i64 Z.2)/\Aft w W5 S P (m+1) Z.1 W6):=hid (fun h0 W5 hb=>by
  subst h0;rw[<- hZ,← hX]
  exact(h.below hb).sync he hm p hp)
 have C7:Hid (wh=7->∀ W5,Below W.heap.size W W5->Calls Tryz.prog 51 #[.pointer (some ⟨P,0,none⟩)] W5 fun r W6=>r=.returned (.int .i64 Z.2)/\Aft w W5 S P (m+1) Z.1 W6):=hid (fun h0 W5 hb=>by
  subst h0;rw[<- hZ]
  exact(h.below hb).flush he hm)
 have HD:=hid h;unfold calV;simp only;rw[hZ,hX,hY,hV];obtain⟨W5,ab⟩:∃ z,ask5 W wh md X Y V=z:=⟨_,rfl⟩;rw[ab]at aa;unfold ask5 at ab;obtain⟨d0,d1,d2,d3,d4,d5⟩:=row5c aa.out.r0;obtain⟨-,-,-,-,tf⟩:=row4 aa.out.r3;clear h he hm hk hp hq hX hY hV hZ;rcases hw with rfl|rfl|rfl|rfl|rfl|rfl|rfl|rfl
 all_goals
  go_enter Tryz.func19,Tryz.ntmps19;repeat (first|go_skip|go_guarded|go_step|go_upon)
  try rw[ab]
  first|refine(C0.out rfl W5 aa.out.bel).mono ?_|refine(C1.out rfl W5 aa.out.bel).mono ?_|refine(C2.out rfl W5 aa.out.bel).mono ?_|refine(C3.out rfl W5 aa.out.bel).mono ?_|refine(C4.out rfl W5 aa.out.bel).mono ?_|refine(C5.out rfl W5 aa.out.bel).mono ?_|refine(C6.out rfl W5 aa.out.bel).mono ?_|refine(C7.out rfl W5 aa.out.bel).mono ?_
  rintro r W6 ⟨rfl,S6,h6,ad,ac⟩;simp only[];obtain⟨r1,r2,r3,r4⟩:=aa.out.keep HD.out ac;obtain⟨t0,t1,t2,t3,tf⟩:=row4 r1;obtain⟨s0,s1,s2,sf⟩:=row3 r2;obtain⟨y0,y1,y2,y3,yf⟩:=row4 r3;obtain⟨x0,x1,x2,xf⟩:=row3 r4;have H6:=hid h6;have ag:=hid ad;have ah:=hid ac;clear h6 ad ac r1 r2 r3 r4 d0 d1 d2 d3 d4 d5;repeat (first|go_skip|go_guarded|go_step|go_upon)
  go_region;repeat (first|go_skip|go_guarded|go_step|go_upon)
  refine bodyPost_ret (v:=.tuple #[.int .i64 Z.2,.agg #[.string ⟨#[]⟩,.int .i64 0,.string ⟨#[]⟩,.int .i64 0],.agg #[.int .i64 0,.int .i64 0,.int .i64 0],.slice none 0 0]) ?_ rfl ⟨.slice none 0 0,rfl,World.ownsRow_nil _ _ _ _,ask_done HD.out aa.out.bel aa.out.size H6.out ag.out ah.out ?_ (fun g hg=>by cases hg)⟩
  ·rw[results_ask rfl];go_simp
  ·exact out_ask7 _ _ _ _ _ _ _ _ _
theorem ask_get{w W:World}{S:Nat->Prop}{P m:Nat}{D:Dk}(h:DS w W S P m D)(he:NF.Env w)(hm:m<=100000)(c:Cal)(hk:c.what=8)(hp:c.path.length<=maxLen)(hq:c.dest.length<=maxLen) :
  Calls Tryz.prog 19 #[.pointer (some ⟨P,0,none⟩),calV c] W (AskPost w W S P (m+1) (askD D c)):=by
 obtain⟨wh,p,q,dt,md⟩:=c;simp only at hk hp hq;subst hk;obtain⟨X,hX,ai⟩:=txt_of p;obtain⟨Y,hY,ak⟩:=txt_of q;obtain⟨V,hV,al⟩:=txt_of dt;have HA:Hid (askD D ⟨8,p,q,dt,md⟩=((getD D p).1,⟨(getD D p).2.2.2,(getD D p).2.1,(getD D p).2.2.1,[]⟩)):=hid (by unfold askD;rw[if_neg (show ¬((8:Int)=0) by decide)];rw[if_neg (show ¬((8:Int)=1) by decide)];rw[if_neg (show ¬((8:Int)=2) by decide)];rw[if_neg (show ¬((8:Int)=3) by decide)];rw[if_neg (show ¬((8:Int)=4) by decide)];rw[if_neg (show ¬((8:Int)=5) by decide)];rw[if_neg (show ¬((8:Int)=6) by decide)];rw[if_neg (show ¬((8:Int)=7) by decide)];rw[if_pos rfl]);have aa:=hid (ask5_is W 8 md X Y V)
 have CX:Hid (∀ W5,Ask5 W W5 8 md X Y V->Calls Tryz.prog 74 #[.pointer (some ⟨P,0,none⟩),.string X] W5 fun r W6=>r=.returned (.tuple #[ndVal (getD D p).2.1,stampVal (getD D p).2.2.1,.int .i64 (getD D p).2.2.2])/\Aft w W5 S P (m+1) (getD D p).1 W6):=hid (fun W5 h5=>by
  have h':=h.below h5.bel;have:=h'.get he hm p hp;rw[hX]at this
  exact this)
 have HD:=hid h;unfold calV;simp only;rw[HA.out,hX,hY,hV];obtain⟨W5,ab⟩:∃ z,ask5 W 8 md X Y V=z:=⟨_,rfl⟩;rw[ab]at aa;unfold ask5 at ab;obtain⟨Zg,aw⟩:∃ z,DP.getD D p=z:=⟨_,rfl⟩;rw[aw]at CX ⊢;obtain⟨E9,⟨gp,gk,gd,gm⟩,⟨ay,az,a0⟩,ge⟩:=Zg;obtain⟨X1,ap,_⟩:=txt_of gp;obtain⟨X2,ao,_⟩:=txt_of gd;unfold ndVal stampVal at CX;simp only at CX ⊢;rw[ap,ao]at CX;have ax:=hid ap;have a2:=hid ao;clear aw ap ao;obtain⟨d0,d1,d2,d3,d4,d5⟩:=row5c aa.out.r0;obtain⟨-,-,-,-,tf⟩:=row4 aa.out.r3;have CY:=hid (CX.out W5 aa.out);clear h he hm hp hq hX hY hV ai ak al;go_enter Tryz.func19,Tryz.ntmps19;repeat (first|go_skip|go_guarded|go_step|go_upon)
 try rw[ab]
 refine CY.out.mono ?_;rintro r W6 ⟨rfl,S6,h6,ad,ac⟩;simp only[];obtain⟨r1,r2,r3,r4⟩:=aa.out.keep HD.out ac;obtain⟨t0,t1,t2,t3,tf⟩:=row4 r1;obtain⟨s0,s1,s2,sf⟩:=row3 r2;obtain⟨y0,y1,y2,y3,yf⟩:=row4 r3;obtain⟨x0,x1,x2,xf⟩:=row3 r4;have H6:=hid h6;have ag:=hid ad;have ah:=hid ac;clear h6 ad ac r1 r2 r3 r4 d0 d1 d2 d3 d4 d5;repeat (first|go_skip|go_guarded|go_step|go_upon)
 go_region;repeat (first|go_skip|go_guarded|go_step|go_upon)
 refine bodyPost_ret (v:=.tuple #[.int .i64 ge,.agg #[.string X1,.int .i64 gk,.string X2,.int .i64 gm],.agg #[.int .i64 ay,.int .i64 az,.int .i64 a0],.slice none 0 0]) ?_ rfl ⟨.slice none 0 0,?_,World.ownsRow_nil _ _ _ _,ask_done HD.out aa.out.bel aa.out.size H6.out ag.out ah.out ?_ (fun g hg=>by cases hg)⟩
 ·rw[results_ask rfl];go_simp
 ·unfold ndVal stampVal;simp only;rw[ax.out,a2.out]
 ·exact out_ask14 _ _ _ _ _ _ _ _ _ _ _ _ _ _ _ _
theorem ask_names{w W:World}{S:Nat->Prop}{P m:Nat}{D:Dk}(h:DS w W S P m D)(he:NF.Env w)(hm:m<=100000)(c:Cal)(hk:c.what=9)(hp:c.path.length<=maxLen)(hq:c.dest.length<=maxLen) :
  Calls Tryz.prog 19 #[.pointer (some ⟨P,0,none⟩),calV c] W (AskPost w W S P (m+1) (askD D c)):=by
 obtain⟨wh,p,q,dt,md⟩:=c;simp only at hk hp hq;subst hk;obtain⟨X,hX,ai⟩:=txt_of p;obtain⟨Y,hY,ak⟩:=txt_of q;obtain⟨V,hV,al⟩:=txt_of dt;have HA:Hid (askD D ⟨9,p,q,dt,md⟩=((namesR D p).1,⟨(namesR D p).2,nodeZ,stampZ,lastsR (namesR D p) p⟩)):=hid (by unfold askD;rw[if_neg (show ¬((9:Int)=0) by decide)];rw[if_neg (show ¬((9:Int)=1) by decide)];rw[if_neg (show ¬((9:Int)=2) by decide)];rw[if_neg (show ¬((9:Int)=3) by decide)];rw[if_neg (show ¬((9:Int)=4) by decide)];rw[if_neg (show ¬((9:Int)=5) by decide)];rw[if_neg (show ¬((9:Int)=6) by decide)];rw[if_neg (show ¬((9:Int)=7) by decide)];rw[if_neg (show ¬((9:Int)=8) by decide)];rw[if_pos rfl]);have aa:=hid (ask5_is W 9 md X Y V)
 have CX:Hid (∀ W5,Ask5 W W5 9 md X Y V->Calls Tryz.prog 75 #[.pointer (some ⟨P,0,none⟩),.string X] W5 fun r W6=>∃ v,r=.returned (.tuple #[v,.int .i64 (namesR D p).2])/\W6.ownsRow W5.heap.size 9 1 v (lastsR (namesR D p) p).length ((lastsR (namesR D p) p).map txt)/\AftN w W5 S P (m+1) (namesR D p).1 v W6):=hid (fun W5 h5=>by
  have h':=h.below h5.bel;have:=h'.names he hm p hp;rw[hX]at this
  exact this)
 have HD:=hid h;unfold calV;simp only;rw[HA.out,hX,hY,hV];obtain⟨W5,ab⟩:∃ z,ask5 W 9 md X Y V=z:=⟨_,rfl⟩;rw[ab]at aa;unfold ask5 at ab;obtain⟨d0,d1,d2,d3,d4,d5⟩:=row5c aa.out.r0;obtain⟨-,-,-,-,tf⟩:=row4 aa.out.r3;have CY:=hid (CX.out W5 aa.out);clear h he hm hp hq hX hY hV ai ak al;go_enter Tryz.func19,Tryz.ntmps19;repeat (first|go_skip|go_guarded|go_step|go_upon)
 try rw[ab]
 refine CY.out.mono ?_;rintro r W6 ⟨v,rfl,ho,S6,h6,ad,ac,au⟩;obtain⟨av,cv,hv,_⟩:=owns_view ho;obtain⟨nv,am⟩:∃ n,(lastsR (namesR D p) p).length=n:=⟨_,rfl⟩;have aq:=hid am;rw[am]at hv;subst hv;have ar:=hid ho;have a1:=hid au;clear ho au am;simp only[];obtain⟨r1,r2,r3,r4⟩:=aa.out.keep HD.out ac;obtain⟨t0,t1,t2,t3,tf⟩:=row4 r1;obtain⟨s0,s1,s2,sf⟩:=row3 r2;obtain⟨y0,y1,y2,y3,yf⟩:=row4 r3;obtain⟨x0,x1,x2,xf⟩:=row3 r4;have H6:=hid h6;have ag:=hid ad;have ah:=hid ac;clear h6 ad ac r1 r2 r3 r4 d0 d1 d2 d3 d4 d5;repeat (first|go_skip|go_guarded|go_step|go_upon)
 go_region;repeat (first|go_skip|go_guarded|go_step|go_upon)
 refine bodyPost_ret (v:=.tuple #[.int .i64 (namesR D p).2,.agg #[.string ⟨#[]⟩,.int .i64 0,.string ⟨#[]⟩,.int .i64 0],.agg #[.int .i64 0,.int .i64 0,.int .i64 0],.slice av nv cv]) ?_ rfl ⟨.slice av nv cv,rfl,?_,ask_done HD.out aa.out.bel aa.out.size H6.out ag.out ah.out ?_ a1.out⟩
 ·rw[results_ask rfl];go_simp
 ·rw[aq.out];have h1:=owns_base ar.out W.heap.size aa.out.bel.size;rw[aq.out]at h1
  refine Out.owns (S:=fun k=>W.heap.size+1<=k/\k<=W.heap.size+4) (w:=W6) ?_ h1 (fun g hg=>by
   have:=(ar.out.lt g (by rw[<- hg])).1;have:=aa.out.size
   omega)
  exact out_ask7 _ _ _ _ _ _ _ _ _
 ·exact out_ask7 _ _ _ _ _ _ _ _ _
theorem ask_boot{w W:World}{S:Nat->Prop}{P m:Nat}{D:Dk}(h:DS w W S P m D)(he:NF.Env w)(hm:m<=100000)(c:Cal)(hk:c.what=10)(hp:c.path.length<=maxLen)(hq:c.dest.length<=maxLen) :
  Calls Tryz.prog 19 #[.pointer (some ⟨P,0,none⟩),calV c] W (AskPost w W S P (m+1) (askD D c)):=by
 obtain⟨wh,p,q,dt,md⟩:=c;simp only at hk hp hq;subst hk;obtain⟨X,hX,ai⟩:=txt_of p;obtain⟨Y,hY,ak⟩:=txt_of q;obtain⟨V,hV,al⟩:=txt_of dt;have HA:Hid (askD D ⟨10,p,q,dt,md⟩=(bootD D [] [],errA 0)):=hid (by unfold askD;rw[if_neg (show ¬((10:Int)=0) by decide)];rw[if_neg (show ¬((10:Int)=1) by decide)];rw[if_neg (show ¬((10:Int)=2) by decide)];rw[if_neg (show ¬((10:Int)=3) by decide)];rw[if_neg (show ¬((10:Int)=4) by decide)];rw[if_neg (show ¬((10:Int)=5) by decide)];rw[if_neg (show ¬((10:Int)=6) by decide)];rw[if_neg (show ¬((10:Int)=7) by decide)];rw[if_neg (show ¬((10:Int)=8) by decide)];rw[if_neg (show ¬((10:Int)=9) by decide)];rw[if_pos rfl]);have aa:=hid (ask5_is W 10 md X Y V)
 have CX:Hid (∀ W5,Ask5 W W5 10 md X Y V->Calls Tryz.prog 17 #[.pointer (some ⟨P,0,none⟩),.slice none 0 0,.slice none 0 0] W5 fun r W6=>r=.returned (.tuple #[])/\Aft w W5 S P (m+1) (bootD D [] []) W6):=hid (fun W5 h5=>by
  have h':=h.below h5.bel;refine h'.boot0.mono ?_;rintro r W6 ⟨hr,S6,h6,h7,h8⟩
  exact⟨hr,S6,h6.mono (by omega),h7,h8⟩)
 have HD:=hid h;unfold calV;simp only;rw[HA.out,hX,hY,hV];obtain⟨W5,ab⟩:∃ z,ask5 W 10 md X Y V=z:=⟨_,rfl⟩;rw[ab]at aa;unfold ask5 at ab;obtain⟨d0,d1,d2,d3,d4,d5⟩:=row5c aa.out.r0;obtain⟨-,-,-,-,tf⟩:=row4 aa.out.r3;have CY:=hid (CX.out W5 aa.out);clear h he hm hp hq hX hY hV ai ak al;go_enter Tryz.func19,Tryz.ntmps19;repeat (first|go_skip|go_guarded|go_step|go_upon)
 try rw[ab]
 refine CY.out.mono ?_;rintro r W6 ⟨rfl,S6,h6,ad,ac⟩;simp only[];obtain⟨r1,r2,r3,r4⟩:=aa.out.keep HD.out ac;obtain⟨t0,t1,t2,t3,tf⟩:=row4 r1;obtain⟨s0,s1,s2,sf⟩:=row3 r2;obtain⟨y0,y1,y2,y3,yf⟩:=row4 r3;obtain⟨x0,x1,x2,xf⟩:=row3 r4;have H6:=hid h6;have ag:=hid ad;have ah:=hid ac;clear h6 ad ac r1 r2 r3 r4 d0 d1 d2 d3 d4 d5;repeat (first|go_skip|go_guarded|go_step|go_upon)
 go_region;repeat (first|go_skip|go_guarded|go_step|go_upon)
 refine bodyPost_ret (v:=.tuple #[.int .i64 0,.agg #[.string ⟨#[]⟩,.int .i64 0,.string ⟨#[]⟩,.int .i64 0],.agg #[.int .i64 0,.int .i64 0,.int .i64 0],.slice none 0 0]) ?_ rfl ⟨.slice none 0 0,rfl,World.ownsRow_nil _ _ _ _,ask_done HD.out aa.out.bel aa.out.size H6.out ag.out ah.out ?_ (fun g hg=>by cases hg)⟩
 ·rw[results_ask rfl];go_simp
 ·exact out_ask7 _ _ _ _ _ _ _ _ _
theorem ask_none{w W:World}{S:Nat->Prop}{P m:Nat}{D:Dk}(h:DS w W S P m D)(he:NF.Env w)(hm:m<=100000)(c:Cal)(hk:c.what≠0/\c.what≠1/\c.what≠2/\c.what≠3/\c.what≠4/\c.what≠5/\c.what≠6/\c.what≠7/\c.what≠8/\c.what≠9/\c.what≠10)(hp:c.path.length<=maxLen)(hq:c.dest.length<=maxLen) :
  Calls Tryz.prog 19 #[.pointer (some ⟨P,0,none⟩),calV c] W (AskPost w W S P (m+1) (askD D c)):=by
 obtain⟨wh,p,q,dt,md⟩:=c;simp only at hk hp hq;obtain⟨X,hX,ai⟩:=txt_of p;obtain⟨Y,hY,ak⟩:=txt_of q;obtain⟨V,hV,al⟩:=txt_of dt;have HA:Hid (askD D ⟨wh,p,q,dt,md⟩=(D,errA 0)):=hid (by obtain⟨h0,h1,h2,h3,h4,h5,h6,h7,h8,h9,aj⟩:=hk;unfold askD;rw[if_neg h0,if_neg h1,if_neg h2,if_neg h3,if_neg h4,if_neg h5,if_neg h6,if_neg h7,if_neg h8,if_neg h9,if_neg aj]);obtain⟨h0,h1,h2,h3,h4,h5,h6,h7,h8,h9,aj⟩:=hk;have b0:(wh==0)=false:=by simpa using h0
 have b1:(wh==1)=false:=by simpa using h1
 have b2:(wh==2)=false:=by simpa using h2
 have b3:(wh==3)=false:=by simpa using h3
 have b4:(wh==4)=false:=by simpa using h4
 have b5:(wh==5)=false:=by simpa using h5
 have b6:(wh==6)=false:=by simpa using h6
 have b7:(wh==7)=false:=by simpa using h7
 have b8:(wh==8)=false:=by simpa using h8
 have b9:(wh==9)=false:=by simpa using h9
 have a3:(wh==10)=false:=by simpa using aj
 clear h0 h1 h2 h3 h4 h5 h6 h7 h8 h9 aj;have aa:=hid (ask5_is W wh md X Y V)
 have CX:Hid (∀ W5,Ask5 W W5 wh md X Y V->DS w W5 S P (m+1) D/\(∀ k,S k->S k\/W5.heap.size<=k)/\Out (fun k=>S k\/k=P) W5 W5):=hid (fun W5 h5=>by
  have h':=h.below h5.bel
  exact⟨h'.mono (by omega),fun k hk=>.inl hk,Out.refl _ _⟩)
 have HD:=hid h;unfold calV;simp only;rw[HA.out,hX,hY,hV];obtain⟨W5,ab⟩:∃ z,ask5 W wh md X Y V=z:=⟨_,rfl⟩;rw[ab]at aa;unfold ask5 at ab;obtain⟨d0,d1,d2,d3,d4,d5⟩:=row5c aa.out.r0;obtain⟨-,-,-,-,tf⟩:=row4 aa.out.r3;have CY:=hid (CX.out W5 aa.out);clear h he hm hp hq hX hY hV ai ak al;go_enter Tryz.func19,Tryz.ntmps19;repeat (first|go_skip|go_guarded|go_step|go_upon)
 try rw[ab]
 have h6:=CY.out.1;have ad:=CY.out.2.1;have ac:=CY.out.2.2;obtain⟨r1,r2,r3,r4⟩:=aa.out.keep HD.out ac;obtain⟨t0,t1,t2,t3,tf⟩:=row4 r1;obtain⟨s0,s1,s2,sf⟩:=row3 r2;obtain⟨y0,y1,y2,y3,yf⟩:=row4 r3;obtain⟨x0,x1,x2,xf⟩:=row3 r4;have H6:=hid h6;have ag:=hid ad;have ah:=hid ac;clear h6 ad ac r1 r2 r3 r4;repeat (first|go_skip|go_guarded|go_step|go_upon)
 go_region;repeat (first|go_skip|go_guarded|go_step|go_upon)
 refine bodyPost_ret (v:=.tuple #[.int .i64 0,.agg #[.string ⟨#[]⟩,.int .i64 0,.string ⟨#[]⟩,.int .i64 0],.agg #[.int .i64 0,.int .i64 0,.int .i64 0],.slice none 0 0]) ?_ rfl ⟨.slice none 0 0,rfl,World.ownsRow_nil _ _ _ _,ask_done HD.out aa.out.bel aa.out.size H6.out ag.out ah.out ?_ (fun g hg=>by cases hg)⟩
 ·rw[results_ask rfl];go_simp
 ·exact out_ask7 _ _ _ _ _ _ _ _ _
theorem ask_any{w W:World}{S:Nat->Prop}{P m:Nat}{D:Dk}(h:DS w W S P m D)(he:NF.Env w)(hm:m<=100000)(c:Cal)(hp:c.path.length<=maxLen)(hq:c.dest.length<=maxLen) :
  Calls Tryz.prog 19 #[.pointer (some ⟨P,0,none⟩),calV c] W (AskPost w W S P (m+1) (askD D c)):=by
 by_cases h7:0<=c.what/\c.what<=7
 ·exact ask_err h he hm c h7 hp hq
 by_cases h8:c.what=8
 ·exact ask_get h he hm c h8 hp hq
 by_cases h9:c.what=9
 ·exact ask_names h he hm c h9 hp hq
 by_cases aj:c.what=10
 ·exact ask_boot h he hm c aj hp hq
 exact ask_none h he hm c ⟨by omega,by omega,by omega,by omega,by omega,by omega,by omega,by omega,h8,h9,aj⟩ hp hq
end DG
end Go.Proofs.YtkmcjededpamnaaGreatDoor