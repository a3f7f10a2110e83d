import Derived.Test.YtkmcjededpamnaaGreatDoorMg4
import Derived.Test.YtkmcjededpamnaaGreatDoorMg1
import Derived.WalkKit
import Derived.WalkMore
import Derived.IntWalk
import Derived.Below
import Derived.Lib.Hide
import Derived.BigRegion
import Derived.BigQuiet
import Derived.Deep.RegionWith
import Derived.Lib.QuietBelow
import Derived.Shelf.Abstract
import Derived.Lib.IndexLaws
set_option linter.all false
set_option maxRecDepth 100000
set_option maxHeartbeats 0
namespace Go.Proofs.YtkmcjededpamnaaGreatDoor
open List(getElem?_eq_getElem length_take mem_of_getElem?)
section
open Go.RowKit Go.Lib Go.BigFrame
namespace TG
open OM TP TM
theorem drawn_below{w w':World}(h:NO.Drawn w w'):Below w.heap.size w w':=by
 obtain⟨n,rfl⟩:=h;exact⟨rfl,rfl,rfl,Nat.le_refl _,fun _ _=>rfl⟩
def SmallG(ts:List Nd):Prop:=∀ n∈ts,n.path.length<=1048576/\n.data.length<=1048576
theorem order_txt(a b:ByteArray)(la lb:List UInt8)(w:World)(ha:a.data.toList=la)(hb:b.data.toList=lb)(h1:la.length<=1048576)(h2:lb.length<=1048576) :
  Calls Tryz.prog 152 #[.string a,.string b] w fun e w'=>e=.returned (.int .i64 (NP.ordL la lb))/\Below w.heap.size w w':=by
 subst ha hb;refine(NO.order_any a b w (by rw[size_eq];unfold maxLen;omega) (by rw[size_eq];unfold maxLen;omega)).mono ?_;rintro e w' ⟨rfl,hd⟩;exact⟨rfl,drawn_below hd⟩
theorem txt_of(l:List UInt8):∃ S:ByteArray,txt l=.string S/\S.data.toList=l:=⟨_,rfl,by simp⟩
theorem pl1_any(n:Nd)(p:List UInt8)(w:World)(hn:n.path.length<=1048576)(hp:p.length<=1048576) :
  Calls Tryz.prog 229 #[ndVal n,txt p] w fun r w'=>r=.returned (.int .i64 (NP.ordL n.path p))/\Below w.heap.size w w':=by
 obtain⟨q,k,d,m⟩:=n;obtain⟨Q,hQ,aE⟩:=txt_of q;obtain⟨S,hS,aa⟩:=txt_of p;obtain⟨D,hD,_⟩:=txt_of d;unfold ndVal;simp only at hn ⊢;rw[hQ,hS,hD];obtain⟨z,hz⟩:∃ z,NP.ordL q p=z:=⟨_,rfl⟩
 have CO:Hid (∀ W,Calls Tryz.prog 152 #[.string Q,.string S] W fun e w'=>e=.returned (.int .i64 z)/\Below W.heap.size W w'):=hid (fun W=>by
  rw[<- hz]
  exact order_txt Q S q p W aE aa hn hp)
 have B0:Hid (Below w.heap.size w (w.alloc (.cells #[.string Q,.int .i64 k,.string D,.int .i64 m] 45))):=hid ((Below.refl _ _).alloc (Nat.le_refl _) _);rw[hz];clear hQ aE hS aa hD hz hn hp;go_enter Tryz.func229,Tryz.ntmps229;repeat (first|(go_at_call 152;refine OM.onB (CO.out _) B0 ?_;intro w1 B1;simp only[])|go_skip|go_guarded|go_step|go_upon)
 go_ret;exact⟨rfl,B1.out⟩
def PlaceSays(ts:List Nd)(p:List UInt8)(k:Nat)(b:Bool):Prop :=
 PlaceAt ts p k/\((b=true/\∃ x,ts[k]?=some x/\x.path=p)\/(b=false/\∀ x,ts[k]?=some x->x.path≠p))
def PlacePost(ts:List Nd)(p:List UInt8)(w:World)(r:Ending)(w':World):Prop :=
 ∃(k:Nat) (b:Bool),r=.returned (.tuple #[.int .i64 k,.bool b])/\PlaceSays ts p k b/\Below w.heap.size w w'
theorem ord_zero(a b:List UInt8):(NP.ordL a b==0)=decide (a=b):=by
 rw[Bool.eq_iff_iff];simp[NP.ordL_zero]
theorem bsf_any(ao:Option Addr)(cap:Nat)(ts:List Nd)(p:List UInt8)(w:World)(h:LayN w ao ts)(hso:Sorted ts)(hs:SmallG ts)(hl:ts.length<=1000)(hp:p.length<=1048576) :
  Calls Tryz.prog 228 #[.slice ao ts.length cap,txt p,.func (.func 229) #[] #[]] w (PlacePost ts p w):=by
 have eg:∀ args w,(callFunc 229 args).run Tryz.prog w=.ok (.enter 229 args) w:=enters_of Tryz.func229 (by kernel_rfl) rfl;obtain⟨n,hn⟩:∃ n,ts.length=n:=⟨_,rfl⟩;have HN:=hid hn;have HL:=hid h;have HS:=hid hs;have HO:=hid hso;rw[hn]at hl ⊢;obtain⟨S,hS,aa⟩:=txt_of p
 have CP:Hid (∀ x∈ts,∀ W,Calls Tryz.prog 229 #[ndVal x,.string S] W fun r w'=>r=.returned (.int .i64 (NP.ordL x.path p))/\Below W.heap.size W w'):=hid (fun x hx W=>by
  rw[<- hS]
  exact pl1_any x p W (HS.out x hx).1 hp)
 rw[hS];clear h hn hS aa hs hso;go_enter Tryz.func228,Tryz.ntmps228;repeat (first|go_skip|go_guarded|go_step|go_upon)
 go_loopw [9,10] (fun s9 s10 wr=>∃ lo hi:Nat,s9=.int .i64 lo/\s10=.int .i64 hi/\lo<=hi/\hi<=n/\Ahead ts p lo/\Behind ts p hi/\Below w.heap.size w wr) (fun s9 s10 _=>(RowKit.intOf s10).toNat-(RowKit.intOf s9).toNat)
 case atStart=>exact⟨0,n,rfl,rfl,Nat.zero_le _,Nat.le_refl _,Ahead.zero _ _,Behind.last (by rw[HN.out];exact Nat.le_refl _),Below.refl _ _⟩
 case round =>
  obtain⟨lo,hi,rfl,rfl,bz,aV,hA,hB,hb⟩:=hrel;have HA:=hid hA;have aK:=hid hB;have HB:=hid hb;have ay:=hb.size;have aM:=hid (HL.out.below hb);clear hA hB hb;by_cases hlt:lo<hi
  ·obtain⟨m,hm⟩:∃ m,(lo+hi) / 2=m:=⟨_,rfl⟩;have aA:((lo:Int)+(hi:Int)) / 2=(m:Int):=by omega
   have aY:lo<=m:=by omega
   have bg:m<hi:=by omega
   have bx:m<n:=by omega
   have bA:(m:Int)<n:=by omega
   have a4:(lo:Int)<hi:=by omega
   obtain⟨g,o,rfl,hg,hc⟩:=aM.out (by rw[HN.out];omega);obtain⟨x,hx⟩:∃ x,ts[m]?=some x:=⟨ts[m]'(by rw[HN.out];exact bx),getElem?_eq_getElem _⟩;have ab:=mem_of_getElem? hx;obtain⟨X,hX,_⟩:=txt_of x.path;obtain⟨D,hD,_⟩:=txt_of x.data;obtain⟨c0,c1,c2,c3⟩:=hc m x hx;rw[hX]at c0;rw[hD]at c2;have cx:=CP.out x ab;unfold ndVal at cx;rw[hX,hD]at cx;obtain⟨z,hz⟩:∃ z,NP.ordL x.path p=z:=⟨_,rfl⟩;rw[hz]at cx;have CX:=hid cx;have HX:=hid hx;have HZ:=hid hz;clear hc hx hX hD ab cx hz hm hlt;by_cases hz0:z<0
   ·have aX:Hid (Ahead ts p (m+1)):=hid (Ahead.of HO.out HX.out (by rw[HZ.out];exact hz0));repeat (first|(go_at_fn 229;refine(CX.out _).mono ?_;rintro r w1 ⟨rfl,hb⟩;simp only[];have B1:=hid (Below.trans HB.out (hb.mono ay));clear hb)|go_skip|go_guarded|go_step|go_upon)
    exact⟨⟨m+1,hi,by go_num,rfl,by omega,by omega,aX.out,aK.out,B1.out⟩,by simp[RowKit.intOf];omega⟩
   ·have aW:Hid (Behind ts p m):=hid (Behind.of HO.out HX.out (by rw[HZ.out];exact hz0));repeat (first|(go_at_fn 229;refine(CX.out _).mono ?_;rintro r w1 ⟨rfl,hb⟩;simp only[];have B1:=hid (Below.trans HB.out (hb.mono ay));clear hb)|go_skip|go_guarded|go_step|go_upon)
    exact⟨⟨lo,m,rfl,rfl,by omega,by omega,HA.out,aW.out,B1.out⟩,by simp[RowKit.intOf];omega⟩
  ·have a4:¬(lo:Int)<hi:=by omega
   obtain rfl:hi=lo:=by omega
   have aG:Hid (PlaceAt ts p hi):=hid ⟨by rw[HN.out];exact aV,HA.out,aK.out⟩;clear hlt;by_cases hln:hi<n
   ·have bh:(hi:Int)<n:=by omega
    obtain⟨g,o,rfl,hg,hc⟩:=aM.out (by rw[HN.out];omega);obtain⟨x,hx⟩:∃ x,ts[hi]?=some x:=⟨ts[hi]'(by rw[HN.out];exact hln),getElem?_eq_getElem _⟩;have ab:=mem_of_getElem? hx;obtain⟨X,hX,_⟩:=txt_of x.path;obtain⟨D,hD,_⟩:=txt_of x.data;obtain⟨c0,c1,c2,c3⟩:=hc hi x hx;rw[hX]at c0;rw[hD]at c2;have cx:=CP.out x ab;unfold ndVal at cx;rw[hX,hD]at cx;obtain⟨z,hz⟩:∃ z,NP.ordL x.path p=z:=⟨_,rfl⟩;rw[hz]at cx;have CX:=hid cx;obtain⟨b,bE⟩:∃ b,(z==0)=b:=⟨_,rfl⟩
    have a5:Hid (PlaceSays ts p hi b):=hid (by
     have e:=ord_zero x.path p;rw[hz,bE]at e;refine⟨aG.out,?_⟩;by_cases a8:x.path=p
     ·rw[decide_eq_true a8]at e;exact .inl ⟨e,x,hx,a8⟩
     ·rw[decide_eq_false a8]at e;refine .inr ⟨e,fun y hy=>?_⟩;rw[hx]at hy;cases hy
      exact a8)
    clear hc hx hX hD ab cx hz;repeat (first|(go_at_fn 229;refine(CX.out _).mono ?_;rintro r w1 ⟨rfl,hb⟩;simp only[];have B1:=hid (Below.trans HB.out (hb.mono ay));clear hb)|go_skip|go_guarded|go_step|go_upon)
    go_ret2;exact⟨hi,b,rfl,a5.out,B1.out⟩
   ·have bh:¬(hi:Int)<n:=by omega
    have a5:Hid (PlaceSays ts p hi false):=hid ⟨aG.out,.inr ⟨rfl,fun y hy=>by
     have:=(List.getElem?_eq_some_iff.1 hy).1;have:=HN.out
     omega⟩⟩
    clear hln;repeat (first|go_skip|go_guarded|go_step|go_upon)
    go_ret2;exact⟨hi,false,rfl,a5.out,HB.out⟩
theorem place_any(ao:Option Addr)(cap:Nat)(ts:List Nd)(p:List UInt8)(w:World)(h:LayN w ao ts)(hso:Sorted ts)(hs:SmallG ts)(hl:ts.length<=1000)(hp:p.length<=1048576) :
  Calls Tryz.prog 197 #[.slice ao ts.length cap,txt p] w (PlacePost ts p w):=by
 have CB:=hid (bsf_any ao cap ts p w h hso hs hl hp);obtain⟨n,hn⟩:∃ n,ts.length=n:=⟨_,rfl⟩;obtain⟨S,hS,_⟩:=txt_of p;rw[hn,hS]at CB ⊢;clear h hso hs hl hp hn hS;go_enter Tryz.func197,Tryz.ntmps197;repeat (first|(go_at_call 228;refine CB.out.mono ?_;rintro r w1 ⟨k,b,rfl,hs,hb⟩;simp only[];have B1:=hid hb;have HS:=hid hs;clear hb hs)|go_skip|go_guarded|go_step|go_upon)
 go_ret2;exact⟨k,b,rfl,HS.out,B1.out⟩
theorem hasDir_any(ao:Option Addr)(cap:Nat)(ts:List Nd)(p:List UInt8)(w:World)(h:LayN w ao ts)(hso:Sorted ts)(hs:SmallG ts)(hl:ts.length<=1000)(hp:p.length<=1048576) :
  Calls Tryz.prog 163 #[.slice ao ts.length cap,txt p] w fun r w'=>r=.returned (.bool (dirB ts p))/\Below w.heap.size w w':=by
 have CB:=hid (place_any ao cap ts p w h hso hs hl hp);have HL:=hid h;have HO:=hid hso;obtain⟨n,hn⟩:∃ n,ts.length=n:=⟨_,rfl⟩;have HN:=hid hn;obtain⟨S,hS,aa⟩:=txt_of p;rw[hn,hS]at CB ⊢;have bw:=hid aa;have bo:(n:Int)<=1000:=by omega
 clear h hso hs hl hp hn hS aa;go_enter Tryz.func163,Tryz.ntmps163;repeat (first|go_skip|go_guarded|go_step|go_upon)
 refine CB.out.mono ?_;rintro r w1 ⟨k,b,rfl,⟨ax,aL⟩,hb⟩;simp only[];have B1:=hid hb;have bI:=hid (HL.out.below hb);by_cases h0:p=[]
 ·have bB:S.toList.isEmpty=true:=by rw[toList_data,bw.out,h0];rfl
  have HF:Hid (dirB ts p=true):=hid (by unfold dirB;rw[decide_eq_true h0];rfl);clear hb ax aL h0;repeat (first|go_skip|go_guarded|go_step|go_upon)
  go_ret;exact⟨by rw[HF.out];rfl,B1.out⟩
 ·have bB:S.toList.isEmpty=false:=by rw[toList_data,bw.out];simpa using h0
  have HD:Hid (dirB ts p=(match findN ts p with|some n=>decide (n.kind=2)|none=>false)):=hid (by unfold dirB;rw[decide_eq_false h0];rfl);clear h0;rcases aL with ⟨rfl,x,hx,a8⟩|⟨rfl,bk⟩
  ·have aR:=(List.getElem?_eq_some_iff.1 hx).1;have bv:(k:Int)<n:=by have:=HN.out;omega
   obtain⟨g,o,rfl,_,hc⟩:=bI.out (by omega);have c1:=(hc k x hx).k;obtain⟨b,bF⟩:∃ b,(x.kind==2)=b:=⟨_,rfl⟩;have HB:Hid (dirB ts p=b):=hid (by rw[HD.out,place_yes HO.out hx a8,← bF];simp only;rw[Bool.eq_iff_iff];simp);clear hb ax hx a8 hc aR;repeat (first|go_skip|go_guarded|go_step|go_upon)
   go_ret;exact⟨by rw[HB.out];rfl,B1.out⟩
  ·have HB:Hid (dirB ts p=false):=hid (by rw[HD.out,place_no HO.out ax bk]);clear hb ax bk;repeat (first|go_skip|go_guarded|go_step|go_upon)
   go_ret;exact⟨by rw[HB.out];rfl,B1.out⟩
end TG
end
section
open Go.RowKit Go.Lib Go.BigFrame
namespace TG
open OM TP TM
theorem reg_g{f:FuncId}{args:Array Value}{v:Value}{w:World}(h:∀ W,Below w.heap.size w W->Calls Tryz.prog f args W fun e w'=>e=.returned v/\Below W.heap.size W w')(d:Nat)(os:Array Obj) :
  Calls Tryz.prog f args (Go.Sort.grow (redrawn w d) os) fun e w''=>e=.returned v/\∃ p:Regrown,w''=Go.Sort.grow (redrawn w p.d) p.os:=Calls.regrown_of (h _ (below_regrown w d os))
theorem path_txt(S:ByteArray)(l:List UInt8)(w:World)(he:NF.Env w)(hS:S.data.toList=l)(h:l.length<=1048576) :
  Calls Tryz.prog 60 #[.string S] w fun e w'=>e=.returned (.bool (NP.pathL l))/\Below w.heap.size w w':=by
 subst hS;exact NF.path_any S w he (by rw[size_eq];unfold maxLen;omega)
theorem within_txt(S T:ByteArray)(p q:List UInt8)(w:World)(he:NF.Env w)(hS:S.data.toList=p)(hT:T.data.toList=q)(h:p.length<=1048576) :
  Calls Tryz.prog 109 #[.string S,.string T] w fun e w'=>e=.returned (.bool (NP.withinL p q))/\Below w.heap.size w w':=by
 subst hS hT;exact NI.within_any S T w he (by rw[size_eq];unfold maxLen;omega)
theorem parent_txt(S:ByteArray)(l:List UInt8)(w:World)(he:NF.Env w)(hS:S.data.toList=l)(h:l.length<=1048576) :
  Calls Tryz.prog 124 #[.string S] w fun e w'=>e=.returned (txt (NP.parentL l))/\Below w.heap.size w w':=by
 subst hS;refine(NC.parent_any S w he (by rw[size_eq];unfold maxLen;omega)).mono ?_;rintro e w' ⟨t,rfl,ht,hb⟩;exact⟨by rw[<- ht,txt_data],hb⟩
theorem parent_len(p:List UInt8):(NP.parentL p).length<=p.length:=by
 unfold NP.parentL;split
 ·by_cases h:p=[]
  ·rw[h];exact Nat.le_refl _
  ·exact Nat.le_of_lt (up_short h)
 ·exact Nat.zero_le _
theorem wc_any(bl bf bp:Nat)(W:World)(he:NF.Env W)(ao:Option Addr)(cap:Nat)(ts:List Nd)(p:List UInt8)(f i:Nat)(x:Nd)
  (hl:W.cell? ⟨bl,0,none⟩=some (.slice ao ts.length cap)) (hf:W.cell? ⟨bf,0,none⟩=some (.int .i64 f)) (hp:W.cell? ⟨bp,0,none⟩=some (txt p))
  (h:LayN W ao ts) (hs:SmallG ts) (hlen:ts.length<=1000) (hx:ts[f+i]?=some x) :
  Calls Tryz.prog 254 #[.int .i64 i,.pointer (some ⟨bl,0,none⟩),.pointer (some ⟨bf,0,none⟩),.pointer (some ⟨bp,0,none⟩)] W fun r w'=>r=.returned (.bool (!NP.withinL x.path p))/\Below W.heap.size W w':=by
 obtain⟨n,hn⟩:∃ n,ts.length=n:=⟨_,rfl⟩;obtain⟨m,hm⟩:∃ m,f+i=m:=⟨_,rfl⟩;have aA:(f:Int)+(i:Int)=m:=by omega
 rw[hm]at hx;have bt:=(List.getElem?_eq_some_iff.1 hx).1;rw[hn]at hl hlen bt;have bx:(m:Int)<n:=by omega
 obtain⟨g,o,rfl,hg,hc⟩:=h (by omega);obtain⟨X,hX,ah⟩:=txt_of x.path;obtain⟨S,hS,aa⟩:=txt_of p;obtain⟨b,hb⟩:∃ b,NP.withinL x.path p=b:=⟨_,rfl⟩;have c0:=(hc m x hx).p;rw[hX]at c0;rw[hS]at hp;have ab:=mem_of_getElem? hx
 have D:=hid (reg_g (w:=W) (f:=109) (args:=#[.string X,.string S]) (v:=.bool b) (fun W' hW=>by
  have:=within_txt X S x.path p W' (he.below hW) ah aa (hs x ab).1;rw[hb]at this
  exact this))
 have fl:=cell_regrown hl;have ff:=cell_regrown hf;have fp:=cell_regrown hp;have f0:=cell_regrown c0;rw[hb];clear hb hX ah hS aa ab hs hc hx h hn hm he bt;go_enter Tryz.func254,Tryz.ntmps254;repeat (first|go_skip|go_guarded|go_step|go_upon)
 with_reducible refine wp_region_quiet_below (by kernel_rfl) (by kernel_rfl) ?_
 repeat (go_big_quiet_step (first|(go_at_call 109;exact D.out _ _)))
 refine wpQuiet_nil ?_;intro _ hw';obtain⟨⟨dq,ac⟩,ad⟩:=hw';subst ad;have W5:Hid (Below W.heap.size W (Go.Sort.grow (redrawn W dq) ac)):=hid (below_regrown W dq ac);clear fl ff fp f0 hl hf hp c0;generalize Go.Sort.grow (redrawn W dq) ac=w5 at W5 ⊢;repeat (first|go_skip|go_guarded|go_step|go_upon)
 go_ret;exact⟨rfl,W5.out⟩
def SearchPost(q:Nat->Bool)(n:Nat)(w:World)(r:Ending)(w':World):Prop :=
 ∃ k:Nat,r=.returned (.int .i64 k)/\k<=n/\(∀ t,t<k->q t=false)/\(∀ t,k<=t->t<n->q t=true)/\Below w.heap.size w w'
theorem search_any(bl bf bp n:Nat)(q:Nat->Bool)(w:World)(hn:n<=1000)
  (hf:∀ W i,Below w.heap.size w W->i<n->Calls Tryz.prog 254 #[.int .i64 i,.pointer (some ⟨bl,0,none⟩),.pointer (some ⟨bf,0,none⟩),.pointer (some ⟨bp,0,none⟩)] W fun r w'=>r=.returned (.bool (q i))/\Below W.heap.size W w')
  (hm:∀ a b,a<=b->b<n->q a=true->q b=true) :
  Calls Tryz.prog 158 #[.int .i64 n,.func (.func 254) #[] #[.pointer (some ⟨bl,0,none⟩),.pointer (some ⟨bf,0,none⟩),.pointer (some ⟨bp,0,none⟩)]] w (SearchPost q n w):=by
 have eg:∀ args w,(callFunc 254 args).run Tryz.prog w=.ok (.enter 254 args) w:=enters_of Tryz.func254 (by kernel_rfl) rfl;have HF:=hid hf;have HM:=hid hm;clear hf hm;go_enter Tryz.func158,Tryz.ntmps158;repeat (first|go_skip|go_guarded|go_step|go_upon)
 go_loopw [5,6] (fun s5 s6 wr=>∃ lo hi:Nat,s5=.int .i64 lo/\s6=.int .i64 hi/\lo<=hi/\hi<=n/\(∀ t,t<lo->q t=false)/\(∀ t,hi<=t->t<n->q t=true)/\Below w.heap.size w wr) (fun s5 s6 _=>(RowKit.intOf s6).toNat-(RowKit.intOf s5).toNat)
 case atStart=>exact⟨0,n,rfl,rfl,Nat.zero_le _,Nat.le_refl _,fun t h=>by omega,fun t h1 h2=>by omega,Below.refl _ _⟩
 case round =>
  obtain⟨lo,hi,rfl,rfl,bz,aV,hA,hB,hb⟩:=hrel;have HA:=hid hA;have aK:=hid hB;have HB:=hid hb;have ay:=hb.size;clear hA hB hb;by_cases hlt:lo<hi
  ·obtain⟨m,hm⟩:∃ m,(lo+hi) / 2=m:=⟨_,rfl⟩;have aA:((lo:Int)+(hi:Int)) / 2=(m:Int):=by omega
   have aY:lo<=m:=by omega
   have bg:m<hi:=by omega
   have a4:(lo:Int)<hi:=by omega
   have cx:=HF.out wr m HB.out (by omega)
   cases hq:q m with
   | false =>
    rw[hq]at cx;have CX:=hid cx
    have aX:Hid (∀ t,t<m+1->q t=false):=hid (fun t ht=>by
     cases h:q t with
     | false=>rfl
     | true=>rw[HM.out t m (by omega) (by omega) h]at hq;cases hq)
    clear hm hlt cx hq;repeat (first|(go_at_fn 254;refine CX.out.mono ?_;rintro r w1 ⟨rfl,hb⟩;simp only[];have B1:=hid (Below.trans HB.out (hb.mono ay));clear hb)|go_skip|go_guarded|go_step|go_upon)
    exact⟨⟨m+1,hi,by go_num,rfl,by omega,by omega,aX.out,aK.out,B1.out⟩,by simp[RowKit.intOf];omega⟩
   | true =>
    rw[hq]at cx;have CX:=hid cx;have aW:Hid (∀ t,m<=t->t<n->q t=true):=hid (fun t h1 h2=>HM.out m t h1 h2 hq);clear hm hlt cx hq;repeat (first|(go_at_fn 254;refine CX.out.mono ?_;rintro r w1 ⟨rfl,hb⟩;simp only[];have B1:=hid (Below.trans HB.out (hb.mono ay));clear hb)|go_skip|go_guarded|go_step|go_upon)
    exact⟨⟨lo,m,rfl,rfl,by omega,by omega,HA.out,aW.out,B1.out⟩,by simp[RowKit.intOf];omega⟩
  ·have a4:¬(lo:Int)<hi:=by omega
   obtain rfl:hi=lo:=by omega
   clear hlt;repeat (first|go_skip|go_guarded|go_step|go_upon)
   go_ret;exact⟨hi,rfl,aV,HA.out,aK.out,HB.out⟩
def CutPost(ts:List Nd)(p:List UInt8)(w:World)(r:Ending)(w':World):Prop :=
 ∃ i j:Nat,r=.returned (.tuple #[.int .i64 i,.int .i64 j])/\Cut ts p i j/\Below w.heap.size w w'
theorem cell_box(w:World)(v:Value)(t:TypeId):(w.alloc (.cells #[v] t)).cell? ⟨w.heap.size,0,none⟩=some v:=by
 rw[World.cell?_alloc_at _ _ _ _ rfl];rfl
end TG
end
section
open Go.RowKit Go.Lib Go.BigFrame
namespace TG
open OM TP TM
theorem cut_of{ts:List Nd}{p:List UInt8}{i k:Nat}(hso:Sorted ts)(hpa:∀ n∈ts,NP.pathL n.path=true)(hp:PlaceAt ts p i)(hk:k<=ts.length-i)
  (h1:∀ t,t<k->∀ x,ts[i+t]?=some x->(!NP.withinL x.path p)=false) (h2:∀ t,k<=t->t<ts.length-i->∀ x,ts[i+t]?=some x->(!NP.withinL x.path p)=true):Cut ts p i (i+k):=by
 refine⟨hp,by omega,by have:=hp.le;omega,fun m x hm hm2 hx=>?_,fun m x hm hx=>?_⟩
 ·have:=h1 (m-i) (by omega) x (by rw[show i+(m-i)=m by omega];exact hx);simpa using this
 ·have hl:=(List.getElem?_eq_some_iff.1 hx).1;have:=h2 (m-i) (by omega) (by omega) x (by rw[show i+(m-i)=m by omega];exact hx);simpa using this
theorem within_any(ao:Option Addr)(cap:Nat)(ts:List Nd)(p:List UInt8)(w:World)(he:NF.Env w)(h:LayN w ao ts)(hso:Sorted ts)(hpa:∀ n∈ts,NP.pathL n.path=true)(hs:SmallG ts)(hl:ts.length<=1000)(hp:p.length<=1048576) :
  Calls Tryz.prog 231 #[.slice ao ts.length cap,txt p] w (CutPost ts p w):=by
 have CP:Hid (∀ W,Below w.heap.size w W->Calls Tryz.prog 197 #[.slice ao ts.length cap,txt p] W (PlacePost ts p W)):=hid (fun W hW=>place_any ao cap ts p W (h.below hW) hso hs hl hp);have HL:=hid h;have HS:=hid hs;have bj:=hid hso;have br:=hid hpa;have HE:=hid he;obtain⟨n,hn⟩:∃ n,ts.length=n:=⟨_,rfl⟩;have HN:=hid hn;obtain⟨S,hS,aa⟩:=txt_of p;have b5:=hid hS;rw[hn,hS]at CP ⊢;rw[hn]at hl;have B0:Hid (Below w.heap.size w ((w.alloc (.cells #[.slice ao n cap] 175)).alloc (.cells #[.string S] 9))):=hid (((Below.refl _ _).alloc (Nat.le_refl _) _).alloc (by simp) _)
 have L0:Hid (((w.alloc (.cells #[.slice ao n cap] 175)).alloc (.cells #[.string S] 9)).cell? ⟨w.heap.size,0,none⟩=some (.slice ao n cap)):=hid (by
  have:=cell_box w (.slice ao n cap) 175
  exact(((Below.refl (w.alloc (.cells #[.slice ao n cap] 175)).heap.size _).alloc (Nat.le_refl _) (.cells #[.string S] 9)).cell (p:=⟨w.heap.size,0,none⟩) (by simp)).trans this)
 have P0:Hid (((w.alloc (.cells #[.slice ao n cap] 175)).alloc (.cells #[.string S] 9)).cell? ⟨w.heap.size+1,0,none⟩=some (.string S)):=hid (by
  have:=cell_box (w.alloc (.cells #[.slice ao n cap] 175)) (.string S) 9;rw[show(w.alloc (.cells #[.slice ao n cap] 175)).heap.size=w.heap.size+1 by simp]at this
  exact this)
 clear h hso hpa hs hn hS aa hp he;go_enter Tryz.func231,Tryz.ntmps231;repeat (first|go_skip|go_guarded|go_step|go_upon)
 refine(CP.out _ B0.out).mono ?_;rintro r w1 ⟨k,b,rfl,⟨ax,_⟩,hb⟩;simp only[];have B1:=hid (Below.trans B0.out (hb.mono B0.out.size));have l1:w1.cell? ⟨w.heap.size,0,none⟩=some (.slice ao n cap):=(hb.cell (p:=⟨w.heap.size,0,none⟩) (by simp;omega)).trans L0.out;have p1:w1.cell? ⟨w.heap.size+1,0,none⟩=some (.string S):=(hb.cell (p:=⟨w.heap.size+1,0,none⟩) (by simp)).trans P0.out;have aZ:w.heap.size+1<w1.heap.size:=by have:=hb.size;simp at this;omega
 obtain⟨w2,aP⟩:∃ w2,w1.alloc (.cells #[.int .i64 (k:Int)] 3)=w2:=⟨_,rfl⟩;have aS:Below w1.heap.size w1 w2:=by rw[<- aP];exact(Below.refl _ _).alloc (Nat.le_refl _) _
 have bu:w2.heap.size=w1.heap.size+1:=by rw[<- aP];simp
 have f2:w2.cell? ⟨w1.heap.size,0,none⟩=some (.int .i64 (k:Int)):=by rw[<- aP];exact cell_box w1 _ _
 have l2:w2.cell? ⟨w.heap.size,0,none⟩=some (.slice ao n cap):=(aS.cell (p:=⟨w.heap.size,0,none⟩) (by show w.heap.size<_;omega)).trans l1;have p2:w2.cell? ⟨w.heap.size+1,0,none⟩=some (.string S):=(aS.cell (p:=⟨w.heap.size+1,0,none⟩) aZ).trans p1;have B2:=hid (Below.trans B1.out (aS.mono B1.out.size));have bQ:k<=n:=by have:=ax.le;have:=HN.out;omega
 obtain⟨q,hq⟩:∃ q,n-k=q:=⟨_,rfl⟩;have bL:(n:Int)-(k:Int)=(q:Int):=by omega
 have aG:=hid ax
 have CS:Hid (Calls Tryz.prog 158 #[.int .i64 q,.func (.func 254) #[] #[.pointer (some ⟨w.heap.size,0,none⟩),.pointer (some ⟨w1.heap.size,0,none⟩),.pointer (some ⟨w.heap.size+1,0,none⟩)]] w2 (SearchPost (fun i=>match ts[k+i]? with|some x=>!NP.withinL x.path p|none=>true) q w2)):=hid (by
  refine search_any _ _ _ q _ w2 (by omega) (fun W i hW hi=>?_) (fun a b hab hbq ha=>?_)
  ·obtain⟨x,hx⟩:∃ x,ts[k+i]?=some x:=⟨ts[k+i]'(by rw[HN.out];omega),getElem?_eq_getElem _⟩;have:=wc_any w.heap.size w1.heap.size (w.heap.size+1) W (HE.out.below (Below.trans B2.out (hW.mono B2.out.size))) ao cap ts p k i x (by rw[HN.out];exact(hW.cell (p:=⟨w.heap.size,0,none⟩) (by show w.heap.size<_;omega)).trans l2) ((hW.cell (p:=⟨w1.heap.size,0,none⟩) (by show w1.heap.size<_;omega)).trans f2) (by rw[b5.out];exact(hW.cell (p:=⟨w.heap.size+1,0,none⟩) (by show w.heap.size+1<_;omega)).trans p2) (HL.out.below (Below.trans B2.out (hW.mono B2.out.size))) HS.out (by rw[HN.out];exact hl) hx;rw[hx];exact this
  ·obtain⟨x,hx⟩:∃ x,ts[k+a]?=some x:=⟨ts[k+a]'(by rw[HN.out];omega),getElem?_eq_getElem _⟩;obtain⟨y,hy⟩:∃ y,ts[k+b]?=some y:=⟨ts[k+b]'(by rw[HN.out];omega),getElem?_eq_getElem _⟩;rw[hx]at ha;rw[hy];simp only[Bool.not_eq_true']at ha ⊢;rw[Bool.eq_false_iff];intro e;rw[within_mono bj.out br.out aG.out (show k<=k+a by omega) (show k+a<=k+b by omega) hx hy e]at ha
   cases ha)
 have HZ:=hid bu;have HQ:=hid hq;clear ax hb p2 bu hq;repeat (first|go_skip|go_guarded|go_step|go_upon)
 refine CS.out.mono ?_;rintro r w3 ⟨c,rfl,hc,h1,h2,hb⟩;simp only[]
 have aJ:Cut ts p k (k+c):=cut_of bj.out br.out aG.out (by have:=HN.out;have:=HQ.out;omega)
  (fun t ht x hx=>by have:=h1 t ht;simp only[hx]at this;exact this)
  (fun t h3 h4 x hx=>by have:=h2 t h3 (by have:=HN.out;have:=HQ.out;omega);simp only[hx]at this;exact this)
 have HC:=hid aJ;have B3:=hid (Below.trans B2.out (hb.mono B2.out.size));have f3:w3.cell? ⟨w1.heap.size,0,none⟩=some (.int .i64 (k:Int)):=(hb.cell (p:=⟨w1.heap.size,0,none⟩) (by show w1.heap.size<_;rw[HZ.out];omega)).trans f2;have bR:k+c<=1000:=by omega
 clear hc h1 h2 hb aJ f2 l1 p1 aP aS l2;repeat (first|go_skip|go_guarded|go_step|go_upon)
 go_quiet (fail);rename_i nq;have B4:Hid (Below w.heap.size w (w3.drewN nq)):=hid ⟨B3.out.os,B3.out.tape,B3.out.output,B3.out.size,B3.out.block⟩;clear f3;generalize w3.drewN nq=w4 at B4 ⊢;repeat (first|go_skip|go_guarded|go_step|go_upon)
 go_ret2;exact⟨k,k+c,by simp,HC.out,B4.out⟩
theorem last_some{l:List Nd}(h:0<l.length):∃ y,l[l.length-1]?=some y/\l.getLast?=some y:=by
 refine⟨l[l.length-1],getElem?_eq_getElem _,?_⟩;rw[List.getLast?_eq_getElem?];exact getElem?_eq_getElem _
theorem goes_any(ao:Option Addr)(cap:Nat)(ts:List Nd)(p:List UInt8)(w:World)(he:NF.Env w)(h:LayN w ao ts)(hso:Sorted ts)(hs:SmallG ts)(hl:ts.length<=1000)(hp:p.length<=1048576) :
  Calls Tryz.prog 115 #[.slice ao ts.length cap,txt p] w fun r w'=>r=.returned (.bool (goesB ts p))/\Below w.heap.size w w':=by
 have cD:∀ W,Below w.heap.size w W->Calls Tryz.prog 163 #[.slice ao ts.length cap,txt (NP.parentL p)] W fun r w'=>r=.returned (.bool (dirB ts (NP.parentL p)))/\Below W.heap.size W w':=fun W hW=>hasDir_any ao cap ts (NP.parentL p) W (h.below hW) hso hs hl (Nat.le_trans (parent_len p) hp);obtain⟨S,hS,aa⟩:=txt_of p;obtain⟨U,hU,_⟩:=txt_of (NP.parentL p)
 have cP:∀ W,Below w.heap.size w W->Calls Tryz.prog 124 #[.string S] W fun e w'=>e=.returned (.string U)/\Below W.heap.size W w':=fun W hW=>by
  have:=parent_txt S p W (he.below hW) aa hp;rw[hU]at this;exact this
 obtain⟨bd,aN⟩:∃ b,dirB ts (NP.parentL p)=b:=⟨_,rfl⟩;obtain⟨n,hn⟩:∃ n,ts.length=n:=⟨_,rfl⟩;rw[hn,hU,aN]at cD;rw[hn,hS];have CD:=hid cD;have CP:=hid cP;have HG:Hid (goesB ts p=((match ts.getLast? with|none=>true|some y=>decide (NP.ordL y.path p<0))&&bd)):=hid (by unfold goesB;rw[aN];rfl);have bJ:n<=1000:=by omega
 by_cases h0:0<n
 ·have aF:(0:Int)<n:=by omega
  have b4:decide ((0:Int)<n)=true:=decide_eq_true aF;obtain⟨y,hy,bs⟩:=last_some (l:=ts) (by omega);rw[hn]at hy;obtain⟨j,hj⟩:∃ j,n-1=j:=⟨_,rfl⟩;have bK:(n:Int)-1=(j:Int):=by omega
  have bM:(j:Int)<n:=by omega
  rw[hj]at hy;obtain⟨g,o,rfl,hg,hc⟩:=h (by omega);obtain⟨Y,hY,bq⟩:=txt_of y.path;have c0:=(hc j y hy).p;rw[hY]at c0;obtain⟨z,hz⟩:∃ z,NP.ordL y.path p=z:=⟨_,rfl⟩
  have CO:Hid (∀ W,Calls Tryz.prog 152 #[.string Y,.string S] W fun e w'=>e=.returned (.int .i64 z)/\Below W.heap.size W w'):=hid (fun W=>by
   rw[<- hz]
   exact order_txt Y S y.path p W bq aa (hs y (mem_of_getElem? hy)).1 hp)
  rw[bs]at HG;simp only[hz]at HG;clear hn hS aa hU aN cD cP he h hso hs hl hp hc hy bs hY bq hz hj;by_cases hz0:z<0
  ·have aZ:¬(0:Int)<=z:=by omega
   have HF:Hid (goesB ts p=bd):=hid (by rw[HG.out,decide_eq_true hz0];rfl);clear hz0;go_enter Tryz.func115,Tryz.ntmps115
   repeat (first
    | (go_at_call 152;refine(CO.out _).mono ?_;rintro r w1 ⟨rfl,hb⟩;simp only[];have B1:=hid hb;clear hb)
    | (go_at_call 124;refine OM.onB (CP.out _ B1.out) B1 ?_;intro w2 B2;simp only[])
    | (go_at_call 163;refine OM.onB (CD.out _ B2.out) B2 ?_;intro w3 B3;simp only[])
    | go_skip|go_guarded|go_step|go_upon)
   go_ret;exact⟨by rw[HF.out];rfl,B3.out⟩
  ·have aZ:(0:Int)<=z:=by omega
   have HF:Hid (goesB ts p=false):=hid (by rw[HG.out,decide_eq_false hz0];rfl);clear hz0;go_enter Tryz.func115,Tryz.ntmps115
   repeat (first
    | (go_at_call 152;refine(CO.out _).mono ?_;rintro r w1 ⟨rfl,hb⟩;simp only[];have B1:=hid hb;clear hb)
    | go_skip|go_guarded|go_step|go_upon)
   go_ret;exact⟨by rw[HF.out];rfl,B1.out⟩
 ·have aF:¬(0:Int)<n:=by omega
  have b4:decide ((0:Int)<n)=false:=decide_eq_false aF;have aH:ts=[]:=List.length_eq_zero_iff.1 (by omega);have HF:Hid (goesB ts p=bd):=hid (by rw[HG.out,aH];rfl);clear hn hS aa hU aN cD cP he h hso hs hl hp aH h0;go_enter Tryz.func115,Tryz.ntmps115
  repeat (first
   | (go_at_call 124;refine(CP.out _ (Below.refl _ _)).mono ?_;rintro r w2 ⟨rfl,hb⟩;simp only[];have B2:=hid hb;clear hb)
   | (go_at_call 163;refine OM.onB (CD.out _ B2.out) B2 ?_;intro w3 B3;simp only[])
   | go_skip|go_guarded|go_step|go_upon)
  go_ret;exact⟨by rw[HF.out];rfl,B3.out⟩
theorem noPath_any(n:Nd)(w:World)(he:NF.Env w)(hn:n.path.length<=1048576) :
  Calls Tryz.prog 232 #[ndVal n] w fun r w'=>r=.returned (.bool (!NP.pathL n.path))/\Below w.heap.size w w':=by
 obtain⟨q,k,d,m⟩:=n;obtain⟨Q,hQ,aE⟩:=txt_of q;obtain⟨D,hD,_⟩:=txt_of d;unfold ndVal;simp only at hn ⊢;rw[hQ,hD];obtain⟨b,hb⟩:∃ b,NP.pathL q=b:=⟨_,rfl⟩
 have CO:Hid (∀ W,Below w.heap.size w W->Calls Tryz.prog 60 #[.string Q] W fun e w'=>e=.returned (.bool b)/\Below W.heap.size W w'):=hid (fun W hW=>by
  rw[<- hb]
  exact path_txt Q q W (he.below hW) aE hn)
 have B0:Hid (Below w.heap.size w (w.alloc (.cells #[.string Q,.int .i64 k,.string D,.int .i64 m] 45))):=hid ((Below.refl _ _).alloc (Nat.le_refl _) _);rw[hb];clear hQ aE hD hb hn he;go_enter Tryz.func232,Tryz.ntmps232;repeat (first|(go_at_call 60;refine OM.onB (CO.out _ B0.out) B0 ?_;intro w1 B1;simp only[])|go_skip|go_guarded|go_step|go_upon)
 go_ret;exact⟨rfl,B1.out⟩
end TG
end
section
open Go.RowKit Go.Lib
namespace TM
open OM TP
theorem add_zero_addr(a:Addr):a.add 0=a:=by
 unfold Addr.add;split<;>simp_all
structure NdSl(T:TypeId):Prop where
 under:Tryz.prog.underlying T=some (.slice (Tryz.prog.elem T))
 size:∀ W,(sizeOf (Tryz.prog.elem T)).run Tryz.prog W=.ok 4 W
theorem ndsl_node:NdSl 22:=⟨by kernel_rfl,fun W=>by rw[show Tryz.prog.elem 22=45 by kernel_rfl];simp[go_sem]⟩
theorem ndsl_list:NdSl 175:=⟨by kernel_rfl,fun W=>by rw[show Tryz.prog.elem 175=45 by kernel_rfl];simp[go_sem]⟩
theorem sl_to{T:TypeId}(hT:NdSl T)(ao:Option Addr)(n k cap:Nat)(z:Int)(hz:z=k)(h:k<=cap)(W:World) :
  (Instr.slice T (.slice ao n cap) none (some (.int .i64 z)) none).run Tryz.prog W=.ok (.slice ao k cap) W:=by
 subst hz;rw[run_slice_h W T ao n cap hT.under .i64 k (by omega) (by omega),hT.size];simp only[Result.andThen,sliced,Int.toNat_natCast,Nat.sub_zero,Nat.zero_mul];congr 2;split
 ·rfl
 ·cases ao with
  | none=>rfl
  | some a=>simp[add_zero_addr]
theorem LayN.piece{W:World}{ao:Option Addr}{ts:List Nd}(h:LayN W ao ts)(i j:Nat):LayN W (ao.map (·.add (i*4))) ((ts.take j).drop i):=fun h0=>by
 rw[List.length_drop,length_take]at h0;obtain⟨g,o,rfl,hg,hc⟩:=h (by omega);refine⟨g,o+i*4,?_,hg,fun k n hk=>?_⟩
 ·simp[Addr.add]
 ·rw[List.getElem?_drop,List.getElem?_take]at hk;split at hk
  ·have:=hc _ n hk;rw[show o+i*4+k*4=o+(i+k)*4 by omega];exact this
  ·cases hk
theorem LayN.take{W:World}{ao:Option Addr}{ts:List Nd}(h:LayN W ao ts)(j:Nat):LayN W ao (ts.take j):=fun h0=>by
 rw[length_take]at h0;obtain⟨g,o,rfl,hg,hc⟩:=h (by omega);refine⟨g,o,rfl,hg,fun k n hk=>?_⟩;rw[List.getElem?_take]at hk;split at hk
 ·exact hc _ n hk
 ·cases hk
theorem sl_from{T:TypeId}(hT:NdSl T)(ao:Option Addr)(ts:List Nd)(i cap:Nat)(hi:i<=ts.length)(hc:ts.length<=cap) :
  ∃ au c',(∀ W,(Instr.slice T (.slice ao ts.length cap) (some (.int .i64 (i:Nat))) none none).run Tryz.prog W=.ok (.slice au (ts.length-i) c') W) /\
   (∀ W,LayN W ao ts->LayN W au (ts.drop i))/\ts.length-i<=c'/\((ao=none->cap=0)->au=none->c'=0):=by
 refine⟨if cap=i then ao else ao.map (·.add (i*4)),cap-i,fun W=>?_,fun W h=>?_,by omega,fun h0 h=>?_⟩
 ·rw[run_slice_l W T ao ts.length cap hT.under .i64 i (by omega) (by omega),hT.size];simp only[Result.andThen,sliced,Int.toNat_natCast]
 ·by_cases hc:cap=i
  ·have:ts.drop i=[]:=List.drop_eq_nil_of_le (by omega);rw[this];exact LayN.nil _ _
  ·rw[if_neg hc];have:=h.piece i ts.length;rw[List.take_length]at this;exact this
 ·by_cases hc:cap=i
  ·omega
  ·rw[if_neg hc]at h
   cases ao with
   | none=>have:=h0 rfl;omega
   | some a=>cases h
end TM
end
section
open Go.RowKit Go.Lib Go.BigFrame
namespace TG
open OM TP TM
theorem idx_contains(l:List UInt8)(c:UInt8):decide (0<=Lib.indexByte l c)=l.contains c:=by
 rw[Bool.eq_iff_iff,decide_eq_true_eq,List.contains_iff_mem];have bP:=Lib.indexByte_ge l c;constructor
 ·intro h;obtain⟨o,ho⟩:∃ o:Nat,Lib.indexByte l c=o:=⟨_,(Int.toNat_of_nonneg h).symm⟩;exact mem_of_getElem? (Lib.indexByte_some ho).1
 ·intro h;rcases Int.lt_or_le (Lib.indexByte l c) 0 with e|e
  ·obtain⟨k,hk,e2⟩:=List.getElem_of_mem h;exact absurd (by rw[<- e2];exact getElem?_eq_getElem hk) (Lib.indexByte_none (show Lib.indexByte l c=-1 by omega) k)
  ·exact e
theorem right_any(n:Nd)(w:World)(hd:n.data.length<=1048576):Calls Tryz.prog 114 #[ndVal n] w fun r w'=>r=.returned (.bool (rightB n))/\Below w.heap.size w w':=by
 obtain⟨p,k,d,m⟩:=n;unfold ndVal txt;simp only at hd ⊢;obtain⟨S,hS⟩:∃ S:ByteArray,⟨d.toArray⟩=S:=⟨_,rfl⟩;have aa:S.data.toList=d:=by rw[<- hS]
 obtain⟨dl,av⟩:∃ dl,d.length=dl:=⟨_,rfl⟩;have bG:S.size=dl:=by rw[size_eq,aa];exact av
 obtain⟨bc,aD⟩:∃ b,d.contains 0=b:=⟨_,rfl⟩
 have CC:Hid (∀ W,Calls Tryz.prog 162 #[.string S,.string ⟨#[0]⟩] W fun e w'=>e=.returned (.bool bc)/\w'=W):=hid (fun W=>by
  have:=Tryz.strings_Contains_one S 0 W;rw[idx_contains,aa,aD]at this
  exact this)
 rw[hS];have B0:Hid (Below w.heap.size w (w.alloc (.cells #[.string ⟨p.toArray⟩,.int .i64 k,.string S,.int .i64 m] 45))):=hid ((Below.refl _ _).alloc (Nat.le_refl _) _);by_cases h1:k=1
 ·have k1:(k==1)=true:=by simp[h1]
  have HR:Hid (rightB ⟨p,k,d,m⟩=(decide (dl<=65536)&&decide (0<=m)&&decide (m<=511))):=hid (by unfold rightB;simp only;rw[if_pos h1,av]);clear hS aa av hd h1 aD;by_cases a1:dl<=65536
  ·have b1:(dl:Int)<=65536:=by omega
   have b7:decide ((dl:Int)<=65536)=true:=decide_eq_true b1;by_cases a2:0<=m
   ·have bb:decide (0<=m)=true:=decide_eq_true a2;by_cases a3:m<=511
    ·have HB:Hid (rightB ⟨p,k,d,m⟩=true):=hid (by rw[HR.out,decide_eq_true a1,decide_eq_true a2,decide_eq_true a3];rfl);clear a1;go_enter Tryz.func114,Tryz.ntmps114;repeat (first|go_skip|go_guarded|go_step|go_upon)
     go_ret;exact⟨by rw[HB.out];simp,B0.out⟩
    ·have HB:Hid (rightB ⟨p,k,d,m⟩=false):=hid (by rw[HR.out,decide_eq_false a3];simp);clear a1;go_enter Tryz.func114,Tryz.ntmps114;repeat (first|go_skip|go_guarded|go_step|go_upon)
     go_ret;exact⟨by rw[HB.out];simp,B0.out⟩
   ·have bb:decide (0<=m)=false:=decide_eq_false a2;have HB:Hid (rightB ⟨p,k,d,m⟩=false):=hid (by rw[HR.out,decide_eq_false a2];simp);clear a1;go_enter Tryz.func114,Tryz.ntmps114;repeat (first|go_skip|go_guarded|go_step|go_upon)
    go_ret;exact⟨by rw[HB.out];rfl,B0.out⟩
  ·have b1:¬(dl:Int)<=65536:=by omega
   have b7:decide ((dl:Int)<=65536)=false:=decide_eq_false b1;have HB:Hid (rightB ⟨p,k,d,m⟩=false):=hid (by rw[HR.out,decide_eq_false a1];simp);clear a1;go_enter Tryz.func114,Tryz.ntmps114;repeat (first|go_skip|go_guarded|go_step|go_upon)
   go_ret;exact⟨by rw[HB.out];rfl,B0.out⟩
 ·have k1:(k==1)=false:=by simp[h1]
  by_cases h2:k=2
  ·have k2:(k==2)=true:=by simp[h2]
   have HR:Hid (rightB ⟨p,k,d,m⟩=(decide (d=[])&&decide (m=0))):=hid (by unfold rightB;simp only;rw[if_neg h1,if_pos h2]);clear av hd h1 h2 bG aD;by_cases a1:d=[]
   ·have b1:S.toList.isEmpty=true:=by rw[toList_data,aa,a1];rfl
    obtain⟨b2,ai⟩:∃ b2,(m==0)=b2:=⟨_,rfl⟩;have HB:Hid (rightB ⟨p,k,d,m⟩=b2):=hid (by rw[HR.out,decide_eq_true a1,← ai,Bool.true_and,Bool.eq_iff_iff];simp);clear a1 hS aa;go_enter Tryz.func114,Tryz.ntmps114;repeat (first|go_skip|go_guarded|go_step|go_upon)
    go_ret;exact⟨by rw[HB.out];rfl,B0.out⟩
   ·have b1:S.toList.isEmpty=false:=by rw[toList_data,aa];simp[a1]
    have HB:Hid (rightB ⟨p,k,d,m⟩=false):=hid (by rw[HR.out,decide_eq_false a1];simp);clear a1 hS aa;go_enter Tryz.func114,Tryz.ntmps114;repeat (first|go_skip|go_guarded|go_step|go_upon)
    go_ret;exact⟨by rw[HB.out];rfl,B0.out⟩
  ·have k2:(k==2)=false:=by simp[h2]
   by_cases h3:k=3
   ·have k3:(k==3)=true:=by simp[h3]
    have HR:Hid (rightB ⟨p,k,d,m⟩=(!bc&&decide (1<=dl)&&decide (dl<=400)&&decide (m=0))):=hid (by unfold rightB;simp only;rw[if_neg h1,if_neg h2,if_pos h3,av,aD]);have ak:S.toList.isEmpty=decide (dl=0):=by rw[toList_data,aa,← av,Bool.eq_iff_iff];simp
    clear hS aa av h1 h2 h3 hd aD;by_cases a1:1<=dl
    ·have b1:S.toList.isEmpty=false:=by rw[ak,decide_eq_false (by omega)]
     by_cases a2:dl<=400
     ·have b2:(dl:Int)<=400:=by omega
      have bb:decide ((dl:Int)<=400)=true:=decide_eq_true b2
      cases bc with
      | true =>
       have HB:Hid (rightB ⟨p,k,d,m⟩=false):=hid (by rw[HR.out];simp);clear a1 a2 ak HR;go_enter Tryz.func114,Tryz.ntmps114;repeat (first|(go_at_call 162;refine(CC.out _).mono ?_;rintro r w1 ⟨rfl,rfl⟩;simp only[])|go_skip|go_guarded|go_step|go_upon)
       go_ret;exact⟨by rw[HB.out];rfl,B0.out⟩
      | false =>
       obtain⟨b3,aI⟩:∃ b3,(m==0)=b3:=⟨_,rfl⟩;have HB:Hid (rightB ⟨p,k,d,m⟩=b3):=hid (by rw[HR.out,decide_eq_true a1,decide_eq_true a2,← aI,Bool.eq_iff_iff];simp);clear a1 a2 ak HR;go_enter Tryz.func114,Tryz.ntmps114;repeat (first|(go_at_call 162;refine(CC.out _).mono ?_;rintro r w1 ⟨rfl,rfl⟩;simp only[])|go_skip|go_guarded|go_step|go_upon)
       go_ret;exact⟨by rw[HB.out];rfl,B0.out⟩
     ·have b2:¬(dl:Int)<=400:=by omega
      have bb:decide ((dl:Int)<=400)=false:=decide_eq_false b2;have HB:Hid (rightB ⟨p,k,d,m⟩=false):=hid (by rw[HR.out,decide_eq_false a2];simp);clear a1 a2 ak HR;go_enter Tryz.func114,Tryz.ntmps114;repeat (first|go_skip|go_guarded|go_step|go_upon)
      go_ret;exact⟨by rw[HB.out];rfl,B0.out⟩
    ·have b1:S.toList.isEmpty=true:=by rw[ak,decide_eq_true (by omega)]
     have HB:Hid (rightB ⟨p,k,d,m⟩=false):=hid (by rw[HR.out,decide_eq_false a1];simp);clear a1 ak HR;go_enter Tryz.func114,Tryz.ntmps114;repeat (first|go_skip|go_guarded|go_step|go_upon)
     go_ret;exact⟨by rw[HB.out];rfl,B0.out⟩
   ·have k3:(k==3)=false:=by simp[h3]
    have HB:Hid (rightB ⟨p,k,d,m⟩=false):=hid (by unfold rightB;simp only;rw[if_neg h1,if_neg h2,if_neg h3]);clear hS aa av hd h1 h2 h3 aD;go_enter Tryz.func114,Tryz.ntmps114;repeat (first|go_skip|go_guarded|go_step|go_upon)
    go_ret;exact⟨by rw[HB.out];rfl,B0.out⟩
end TG
end
section
open Go.RowKit Go.Lib Go.BigFrame
namespace TG
open OM TP TM
def checkG(ts:List Nd):Nat:=if treeB ts=true then 0 else 60
theorem check_yes{ts:List Nd}(h:treeB ts=true):checkG ts=0:=if_pos h
theorem check_no{ts:List Nd}(h:treeB ts=false):checkG ts=60:=if_neg (by rw[h];simp)
theorem box4(w:World)(a b c d:Value)(t:TypeId) :
  (w.alloc (.cells #[a,b,c,d] t)).cell? ⟨w.heap.size,0,none⟩=some a/\(w.alloc (.cells #[a,b,c,d] t)).cell? ⟨w.heap.size,1,none⟩=some b/\(w.alloc (.cells #[a,b,c,d] t)).cell? ⟨w.heap.size,2,none⟩=some c/\(w.alloc (.cells #[a,b,c,d] t)).cell? ⟨w.heap.size,3,none⟩=some d:=by
 have h:=heap_alloc_new w (.cells #[a,b,c,d] t);exact⟨by rw[cell_of_row _ _ 0 _ _ _ h];rfl,by rw[cell_of_row _ _ 1 _ _ _ h];rfl,by rw[cell_of_row _ _ 2 _ _ _ h];rfl,by rw[cell_of_row _ _ 3 _ _ _ h];rfl⟩
theorem check_any(ao:Option Addr)(cap:Nat)(ts:List Nd)(w:World)(he:NF.Env w)(h:LayN w ao ts)(hs:SmallG ts)(hl:ts.length<=maxLen)(hcap:ts.length<=cap) :
  Calls Tryz.prog 53 #[.slice ao ts.length cap] w fun r w'=>r=.returned (.int .i64 (checkG ts:Nat))/\Below w.heap.size w w':=by
 obtain⟨n,hn⟩:∃ n,ts.length=n:=⟨_,rfl⟩;have HN:=hid hn;have HL:=hid h;have bn:=hid hs;have HE:=hid he;unfold maxLen at hl;rw[hn]at hl hcap ⊢;have bo:(n:Int)<=9223372036854775807:=by omega
 by_cases h0:n<=1000
 ·have aF:¬(1000:Int)<n:=by omega
  clear h hn hl hs he;go_enter Tryz.func53,Tryz.ntmps53;repeat (first|go_skip|go_guarded|go_step|go_upon)
  go_loopw [10] (fun s10 wr=>∃ k:Nat,s10=.int .i64 k/\k<=n/\treeB (ts.take k)=true/\Below w.heap.size w wr) (fun s10 _=>n-(RowKit.intOf s10).toNat)
  case atStart=>exact⟨0,rfl,Nat.zero_le _,rfl,Below.refl _ _⟩
  case round =>
   obtain⟨k,rfl,hk,ht,hb⟩:=hrel;have HT:=hid ht;have HB:=hid hb;have ay:=hb.size;have aM:=hid (HL.out.below hb);have b6:=hid (HE.out.below hb);clear ht hb;by_cases hlt:k<n
   ·have bv:(k:Int)<n:=by omega
    obtain⟨g,o,rfl,hg,aw⟩:=aM.out (by rw[HN.out];omega);obtain⟨x,hx⟩:∃ x,ts[k]?=some x:=⟨ts[k]'(by rw[HN.out];exact hlt),getElem?_eq_getElem _⟩;have ab:=mem_of_getElem? hx;obtain⟨ar,aq⟩:=bn.out x ab;obtain⟨c0,c1,c2,c3⟩:=aw k x hx;obtain⟨X,hX,ah⟩:=txt_of x.path;obtain⟨D,hD,_⟩:=txt_of x.data;obtain⟨kx,al⟩:∃ kx,x.kind=kx:=⟨_,rfl⟩;obtain⟨mx,am⟩:∃ mx,x.mode=mx:=⟨_,rfl⟩;rw[hX]at c0;rw[al]at c1;rw[hD]at c2;rw[am]at c3;obtain⟨wa,a9⟩:∃ wa,wr.alloc (.cells #[.string X,.int .i64 kx,.string D,.int .i64 mx] 45)=wa:=⟨_,rfl⟩;have ba:Below wr.heap.size wr wa:=by rw[<- a9];exact(Below.refl _ _).alloc (Nat.le_refl _) _
    obtain⟨a0,a1,a2,a3⟩:=box4 wr (.string X) (.int .i64 kx) (.string D) (.int .i64 mx) 45;rw[a9]at a0 a1 a2 a3;have az:=hid (Below.trans HB.out (ba.mono ay));have bi:=hid (b6.out.below ba);have b9:=hid (aM.out.below ba);obtain⟨b1,be⟩:∃ b,NP.pathL x.path=b:=⟨_,rfl⟩;obtain⟨b2,ai⟩:∃ b,rightB x=b:=⟨_,rfl⟩;obtain⟨b3,aI⟩:∃ b,goesB (ts.take k) x.path=b:=⟨_,rfl⟩;have ag:Hid (treeB (ts.take (k+1))=(b1&&b2&&b3)):=hid (by rw[tree_step hx HT.out (by rw[HN.out];exact h0),be,ai,aI])
    have D1:=hid (reg_g (w:=wa) (f:=60) (args:=#[.string X]) (v:=.bool b1) (fun W hW=>by
     have:=path_txt X x.path W (bi.out.below hW) ah ar;rw[be]at this
     exact this))
    have D2:=hid (reg_g (w:=wa) (f:=114) (args:=#[.agg #[.string X,.int .i64 kx,.string D,.int .i64 mx]]) (v:=.bool b2) (fun W hW=>by
     have:=right_any x W aq;unfold ndVal at this;rw[hX,hD,al,am,ai]at this
     exact this))
    have D3:=hid (reg_g (w:=wa) (f:=115) (args:=#[.slice (some ⟨g,o,none⟩) k cap,.string X]) (v:=.bool b3) (fun W hW=>by
     have aR:(ts.take k).length=k:=by rw[length_take,HN.out];omega
     have:=goes_any (some ⟨g,o,none⟩) cap (ts.take k) x.path W (bi.out.below hW) ((b9.out.below hW).take k) ((tree_iff _).1 HT.out).sorted (fun m hm=>bn.out m (List.mem_of_mem_take hm)) (by rw[aR];omega) ar;rw[aR,hX,aI]at this
     exact this))
    have a7:=sl_to ndsl_node (some ⟨g,o,none⟩) n k cap k rfl (by omega);have aO:=cell_regrown a0;have aQ:=cell_regrown a1;have aT:=cell_regrown a2;have aU:=cell_regrown a3;clear aw hX ah hD al am be ai aI hx ab ar aq hlt;repeat (first|go_skip|go_guarded|go_step|go_upon)
    cases b1 with
    | false =>
     have HF:Hid (checkG ts=60):=hid (check_no (tree_stop (k:=k+1) (by rw[ag.out];rfl)));with_reducible refine wp_region_quiet_below (by kernel_rfl) (by kernel_rfl) ?_
     repeat (go_big_quiet_step (first|(go_at_call 60;exact D1.out _ _)|(go_at_call 114;exact D2.out _ _)|(go_at_call 115;exact D3.out _ _)))
     refine wpQuiet_nil ?_;intro _ hw';obtain⟨⟨dq,ac⟩,ad⟩:=hw';subst ad;have W5:Hid (Below wa.heap.size wa (Go.Sort.grow (redrawn wa dq) ac)):=hid (below_regrown wa dq ac);clear aO aQ aT aU a0 a1 a2 a3 a9;generalize Go.Sort.grow (redrawn wa dq) ac=w5 at W5 ⊢;repeat (first|go_skip|go_guarded|go_step|go_upon)
     go_ret;exact⟨by rw[HF.out];rfl,Below.trans az.out (W5.out.mono az.out.size)⟩
    | true =>
     cases b2 with
     | false =>
      have HF:Hid (checkG ts=60):=hid (check_no (tree_stop (k:=k+1) (by rw[ag.out];rfl)));with_reducible refine wp_region_quiet_below (by kernel_rfl) (by kernel_rfl) ?_
      repeat (go_big_quiet_step (first|(go_at_call 60;exact D1.out _ _)|(go_at_call 114;exact D2.out _ _)|(go_at_call 115;exact D3.out _ _)))
      refine wpQuiet_nil ?_;intro _ hw';obtain⟨⟨dq,ac⟩,ad⟩:=hw';subst ad;have W5:Hid (Below wa.heap.size wa (Go.Sort.grow (redrawn wa dq) ac)):=hid (below_regrown wa dq ac);clear aO aQ aT aU a0 a1 a2 a3 a9;generalize Go.Sort.grow (redrawn wa dq) ac=w5 at W5 ⊢;repeat (first|go_skip|go_guarded|go_step|go_upon)
      go_ret;exact⟨by rw[HF.out];rfl,Below.trans az.out (W5.out.mono az.out.size)⟩
     | true =>
      cases b3 with
      | false =>
       have HF:Hid (checkG ts=60):=hid (check_no (tree_stop (k:=k+1) (by rw[ag.out];rfl)));with_reducible refine wp_region_quiet_below (by kernel_rfl) (by kernel_rfl) ?_
       repeat (go_big_quiet_step (first|(go_at_call 60;exact D1.out _ _)|(go_at_call 114;exact D2.out _ _)|(go_at_call 115;exact D3.out _ _)))
       refine wpQuiet_nil ?_;intro _ hw';obtain⟨⟨dq,ac⟩,ad⟩:=hw';subst ad;have W5:Hid (Below wa.heap.size wa (Go.Sort.grow (redrawn wa dq) ac)):=hid (below_regrown wa dq ac);clear aO aQ aT aU a0 a1 a2 a3 a9;generalize Go.Sort.grow (redrawn wa dq) ac=w5 at W5 ⊢;repeat (first|go_skip|go_guarded|go_step|go_upon)
       go_ret;exact⟨by rw[HF.out];rfl,Below.trans az.out (W5.out.mono az.out.size)⟩
      | true =>
       with_reducible refine wp_region_quiet_below (by kernel_rfl) (by kernel_rfl) ?_
       repeat (go_big_quiet_step (first|(go_at_call 60;exact D1.out _ _)|(go_at_call 114;exact D2.out _ _)|(go_at_call 115;exact D3.out _ _)))
       refine wpQuiet_nil ?_;intro _ hw';obtain⟨⟨dq,ac⟩,ad⟩:=hw';subst ad;have W5:Hid (Below wa.heap.size wa (Go.Sort.grow (redrawn wa dq) ac)):=hid (below_regrown wa dq ac);clear aO aQ aT aU a0 a1 a2 a3 a9;generalize Go.Sort.grow (redrawn wa dq) ac=w5 at W5 ⊢;repeat (first|go_skip|go_guarded|go_step|go_upon)
       exact⟨⟨k+1,by go_num,by omega,ag.out,Below.trans az.out (W5.out.mono az.out.size)⟩,by simp[RowKit.intOf];omega⟩
   ·have bv:¬(k:Int)<n:=by omega
    have HF:Hid (checkG ts=0):=hid (check_yes (by
     have:=HT.out;rw[List.take_of_length_le (by rw[HN.out];omega)]at this
     exact this))
    clear hlt;repeat (first|go_skip|go_guarded|go_step|go_upon)
    go_ret;exact⟨by rw[HF.out];rfl,HB.out⟩
 ·have aF:(1000:Int)<n:=by omega
  have HB:Hid (checkG ts=60):=hid (check_no (by unfold treeB;rw[hn,decide_eq_false h0];rfl));clear h hn hl hs h0 he;go_enter Tryz.func53,Tryz.ntmps53;repeat (first|go_skip|go_guarded|go_step|go_upon)
  go_ret;exact⟨by rw[HB.out];rfl,Below.refl _ _⟩
end TG
end
section
open Go.RowKit Go.Lib Go.BigFrame
namespace TG
open OM TP TM
theorem lay_first{W:World}{ao:Option Addr}{x:Nd}{r:List Nd}(h:LayN W ao (x::r)):∃ g o,ao=some ⟨g,o,none⟩/\g<W.heap.size/\NodeAt W g o x:=by
 obtain⟨g,o,e,hg,hc⟩:=h (by simp);have:=hc 0 x rfl;rw[Nat.zero_mul,Nat.add_zero]at this;exact⟨g,o,e,hg,this⟩
theorem rightV_any(ao:Option Addr)(cap:Nat)(v:List Nd)(w:World)(he:NF.Env w)(h:LayN w ao v)(hs:SmallG v)(hl:v.length<=maxLen)(hcap:v.length<=cap) :
  Calls Tryz.prog 123 #[.slice ao v.length cap] w fun r w'=>r=.returned (.bool (rightV v))/\Below w.heap.size w w':=by
 cases v with
 | nil =>
  go_enter Tryz.func123,Tryz.ntmps123;repeat (first|go_skip|go_guarded|go_step|go_upon)
  go_ret;exact⟨rfl,Below.refl _ _⟩
 | cons x r =>
  have HL:=hid h;have HE:=hid he;have a7:=sl_from ndsl_node ao (x::r) 1 cap (by simp) hcap;obtain⟨au,c',a7,aj,bm,_⟩:=a7;have bD:Hid (∀ W,Below w.heap.size w W->LayN W au r):=hid (fun W hW=>aj W (HL.out.below hW));obtain⟨g,o,rfl,hg,aC⟩:=lay_first h;obtain⟨n,hn⟩:∃ n,(x::r).length=n:=⟨_,rfl⟩;have a6:r.length+1=n:=by rw[<- hn];rfl
  obtain⟨q,hq⟩:∃ q,n-1=q:=⟨_,rfl⟩;have aB:r.length=q:=by omega
  rw[hn]at hl hcap a7 bm ⊢;rw[hq]at a7 bm;have b0:∀ W,(Instr.slice 22 (.slice (some ⟨g,o,none⟩) n cap) (some (.int .i64 1)) none none).run Tryz.prog W=.ok (.slice au q c') W:=a7;clear a7;unfold maxLen at hl;have bo:(n:Int)<=9223372036854775807:=by omega
  have bO:((n:Int)==0)=false:=by simp;omega
  have bN:(0:Int)<n:=by omega
  obtain⟨ar,aq⟩:=hs x (List.mem_cons_self ..);obtain⟨X,hX,ah⟩:=txt_of x.path;obtain⟨D,hD,_⟩:=txt_of x.data;obtain⟨kx,al⟩:∃ kx,x.kind=kx:=⟨_,rfl⟩;obtain⟨mx,am⟩:∃ mx,x.mode=mx:=⟨_,rfl⟩
  have CL:Hid (∀ W,Below w.heap.size w W->W.cell? ⟨g,o,none⟩=some (.string X)/\W.cell? ⟨g,o+1,none⟩=some (.int .i64 kx)/\W.cell? ⟨g,o+2,none⟩=some (.string D)/\W.cell? ⟨g,o+3,none⟩=some (.int .i64 mx)):=hid (fun W hW=>by
   obtain⟨p,k,d,m⟩:=aC.below hg hW;rw[hX]at p;rw[hD]at d
   exact⟨p,by rw[<- al];exact k,d,by rw[<- am];exact m⟩)
  obtain⟨e0,e1,e2,e3⟩:=CL.out w (Below.refl _ _);obtain⟨b2,ai⟩:∃ b,rightB x=b:=⟨_,rfl⟩
  have C2:Hid (∀ W,Calls Tryz.prog 114 #[.agg #[.string X,.int .i64 kx,.string D,.int .i64 mx]] W fun r w'=>r=.returned (.bool b2)/\Below W.heap.size W w'):=hid (fun W=>by
   have:=right_any x W aq;unfold ndVal at this;rw[hX,hD,al,am,ai]at this
   exact this)
  obtain⟨E,hE⟩:∃ E:Nat,checkG r=E:=⟨_,rfl⟩
  have C3:Hid (∀ W,Below w.heap.size w W->Calls Tryz.prog 53 #[.slice au q c'] W fun r w'=>r=.returned (.int .i64 (E:Nat))/\Below W.heap.size W w'):=hid (fun W hW=>by
   have:=check_any au c' r W (HE.out.below hW) (bD.out W hW) (fun m hm=>hs m (List.mem_cons_of_mem _ hm)) (by unfold maxLen;omega) (by omega);rw[aB,hE]at this
   exact this)
  have HR:Hid (rightV (x::r)=(decide (x.path=[])&&b2&&decide (n<=1000)&&(decide (r=[])||(decide (kx=2)&&treeB r)))):=hid (by unfold rightV;simp only;rw[ai,a6,al]);by_cases hm:n<=1000
  ·have aA:¬(1000:Int)<n:=by omega
   have bH:decide ((1000:Int)<n)=false:=decide_eq_false aA;by_cases hp:x.path=[]
   ·have bC:X.toList.isEmpty=true:=by rw[toList_data,ah,hp];rfl
    cases b2 with
    | false =>
     have HF:Hid (rightV (x::r)=false):=hid (by rw[HR.out];simp);clear hX ah hD al am ai ar aq aC hn a6 hl hcap hs h hp he hE hq aB aj hm;go_enter Tryz.func123,Tryz.ntmps123;repeat (first|(go_at_call 114;refine(C2.out _).mono ?_;rintro r w2 ⟨rfl,hb⟩;simp only[];have W2:=hid hb;clear hb)|go_skip|go_guarded|go_step|go_upon)
     go_ret;exact⟨by rw[HF.out];rfl,W2.out⟩
    | true =>
     by_cases hk:kx=2
     ·have b8:(kx==2)=true:=by simp[hk]
      obtain⟨b,hb⟩:∃ b,((E:Int)==0)=b:=⟨_,rfl⟩
      have HF:Hid (rightV (x::r)=b):=hid (by
       rw[HR.out,decide_eq_true hp,decide_eq_true hm,decide_eq_true hk,← hb,← hE];unfold checkG;by_cases hr:r=[]
       ·rw[hr];rfl
       ·rw[decide_eq_false hr];cases treeB r<;>simp)
      clear hX ah hD al am ai ar aq aC hn a6 hl hcap hs h hp he hE hq aB aj hm hk;go_enter Tryz.func123,Tryz.ntmps123;repeat (first|(go_at_call 114;refine(C2.out _).mono ?_;rintro r w2 ⟨rfl,ap⟩;simp only[];obtain⟨e4,e5,e6,e7⟩:=CL.out w2 ap;have W2:=hid ap;clear ap)|(go_at_call 53;refine(C3.out _ W2.out).mono ?_;rintro r w3 ⟨rfl,ap⟩;simp only[];have W3:=hid (Below.trans W2.out (ap.mono W2.out.size));clear ap)|go_skip|go_guarded|go_step|go_upon)
      go_ret;exact⟨by rw[HF.out];rfl,W3.out⟩
     ·have b8:(kx==2)=false:=by simp[hk]
      obtain⟨b,hb⟩:∃ b,((n:Int)==1)=b:=⟨_,rfl⟩
      have HF:Hid (rightV (x::r)=b):=hid (by
       rw[HR.out,decide_eq_true hp,decide_eq_true hm,decide_eq_false hk,← hb];by_cases hr:r=[]
       ·rw[decide_eq_true hr];have:n=1:=by rw[<- a6,hr];rfl
        rw[this];rfl
       ·rw[decide_eq_false hr];have:0<r.length:=List.length_pos_iff.2 hr;have h2:((n:Int)==1)=false:=by simp;omega
        rw[h2];rfl)
      clear hX ah hD al am ai ar aq aC hn a6 hl hcap hs h hp he hE hq aB aj hm hk;go_enter Tryz.func123,Tryz.ntmps123;repeat (first|(go_at_call 114;refine(C2.out _).mono ?_;rintro r w2 ⟨rfl,ap⟩;simp only[];obtain⟨e4,e5,e6,e7⟩:=CL.out w2 ap;have W2:=hid ap;clear ap)|go_skip|go_guarded|go_step|go_upon)
      go_ret;exact⟨by rw[HF.out];rfl,W2.out⟩
   ·have bC:X.toList.isEmpty=false:=by rw[toList_data,ah];simpa using hp
    have HF:Hid (rightV (x::r)=false):=hid (by rw[HR.out,decide_eq_false hp];simp);clear hX ah hD al am ai ar aq aC hn a6 hl hcap hs h hp he hE hq aB aj hm;go_enter Tryz.func123,Tryz.ntmps123;repeat (first|go_skip|go_guarded|go_step|go_upon)
    go_ret;exact⟨by rw[HF.out];rfl,Below.refl _ _⟩
  ·have aA:(1000:Int)<n:=by omega
   have bH:decide ((1000:Int)<n)=true:=decide_eq_true aA;have HF:Hid (rightV (x::r)=false):=hid (by rw[HR.out,decide_eq_false hm];simp);clear hX ah hD al am ai ar aq aC hn a6 hl hcap hs h he hE hq aB aj hm;go_enter Tryz.func123,Tryz.ntmps123;repeat (first|go_skip|go_guarded|go_step|go_upon)
   go_ret;exact⟨by rw[HF.out];rfl,Below.refl _ _⟩
def zeroG:Nd:=⟨[],0,[],0⟩
theorem row4{W:World}{b:Nat}{a0 a1 a2 a3:Value}{t:TypeId}(h:W.heap[b]?=some (.cells #[a0,a1,a2,a3] t (0,0))) :
  W.cell? ⟨b,0,none⟩=some a0/\W.cell? ⟨b,1,none⟩=some a1/\W.cell? ⟨b,2,none⟩=some a2/\W.cell? ⟨b,3,none⟩=some a3/\∀ j,W.frozen? ⟨b,j,none⟩=false :=
 ⟨by rw[cell_of_row W b 0 _ _ _ h];rfl,by rw[cell_of_row W b 1 _ _ _ h];rfl,by rw[cell_of_row W b 2 _ _ _ h];rfl,by rw[cell_of_row W b 3 _ _ _ h];rfl,fun j=>frozen_of_row W b j _ _ h⟩
theorem below4g{w W:World}(h:Below w.heap.size w W)(a b c d:Value):Below w.heap.size w ((((W.setCell ⟨w.heap.size,0,none⟩ a).setCell ⟨w.heap.size,1,none⟩ b).setCell ⟨w.heap.size,2,none⟩ c).setCell ⟨w.heap.size,3,none⟩ d) :=
 (((h.setCell (p:=⟨w.heap.size,0,none⟩) (Nat.le_refl _) _).setCell (p:=⟨w.heap.size,1,none⟩) (Nat.le_refl _) _).setCell (p:=⟨w.heap.size,2,none⟩) (Nat.le_refl _) _).setCell (p:=⟨w.heap.size,3,none⟩) (Nat.le_refl _) _
theorem checkG_zero(ts:List Nd):((checkG ts:Nat):Int)=0↔treeB ts=true:=by
 unfold checkG;cases treeB ts<;>simp
end TG
end
end Go.Proofs.YtkmcjededpamnaaGreatDoor
