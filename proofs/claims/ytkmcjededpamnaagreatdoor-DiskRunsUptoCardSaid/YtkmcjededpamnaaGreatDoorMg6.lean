import Derived.Test.YtkmcjededpamnaaGreatDoorMg4
import Derived.Test.YtkmcjededpamnaaGreatDoorMg5
import Derived.Test.YtkmcjededpamnaaGreatDoorMg3
import Derived.Test.YtkmcjededpamnaaGreatDoorMg2
import Derived.Test.YtkmcjededpamnaaGreatDoorMg1
import Derived.Lib.AppendZeros
import Derived.Lib.SliceRun
import Derived.Laws.CopyRow
import Derived.Lib.AppendZerosOnto
import Derived.Lib.Overlaps
set_option linter.all false
set_option maxRecDepth 100000
set_option maxHeartbeats 0
namespace Go.Proofs.YtkmcjededpamnaaGreatDoor
open List(length_append getElem?_eq_getElem length_take mem_of_getElem? mem_filter take_add_one drop_succ_cons drop_zero length_cons take_of_length_le length_drop take_length map_cons take_append_drop take_succ_cons append_assoc take_zero map_nil getElem?_drop nil_append getElem?_take size_toArray take_take map_toArray)
section
open Go.RowKit Go.Lib Go.BigFrame
namespace DG
open OM TP TM DP DM TG
def SmallE(ns:List Nd):Prop:=∀ n∈ns,n.path.length<=maxLen
theorem order_wide(a b:ByteArray)(la lb:List UInt8)(w:World)(ha:a.data.toList=la)(hb:b.data.toList=lb)(h1:la.length<=maxLen)(h2:lb.length<=maxLen) :
  Calls Tryz.prog 152 #[.string a,.string b] w fun e w'=>e=.returned (.int .i64 (NP.ordL la lb))/\Below w.heap.size w w':=by
 subst ha hb;refine(NO.order_any a b w (by rw[size_eq];exact h1) (by rw[size_eq];exact h2)).mono ?_;rintro e w' ⟨rfl,hd⟩;exact⟨rfl,drawn_below hd⟩
theorem pl1_any(adr:Int->Nat)(n:Nd)(p:List UInt8)(w:World)(hn:n.path.length<=maxLen)(hp:p.length<=maxLen) :
  Calls Tryz.prog 175 #[enV adr n,txt p] w fun r w'=>r=.returned (.int .i64 (NP.ordL n.path p))/\Below w.heap.size w w':=by
 obtain⟨q,k,d,m⟩:=n;obtain⟨Q,hQ,bo⟩:=txt_of q;obtain⟨S,hS,a4⟩:=txt_of p;unfold enV;simp only at hn ⊢;rw[hQ,hS];obtain⟨z,hz⟩:∃ z,NP.ordL q p=z:=⟨_,rfl⟩;obtain⟨a,ha⟩:∃ a,ptrV adr k=a:=⟨_,rfl⟩
 have CO:Hid (∀ W,Calls Tryz.prog 152 #[.string Q,.string S] W fun e w'=>e=.returned (.int .i64 z)/\Below W.heap.size W w'):=hid (fun W=>by
  rw[<- hz]
  exact order_wide Q S q p W bo a4 hn hp)
 have B0:Hid (Below w.heap.size w (w.alloc (.cells #[.string Q,a] 125))):=hid ((Below.refl _ _).alloc (Nat.le_refl _) _);rw[hz,ha];clear hQ bo hS a4 hz hn hp ha;go_enter Tryz.func175,Tryz.ntmps175;repeat (first|(go_at_call 152;refine OM.onB (CO.out _) B0 ?_;intro w1 B1;simp only[])|go_skip|go_guarded|go_step|go_upon)
 go_ret;exact⟨rfl,B1.out⟩
theorem ptr_cases(adr:Int->Nat)(k:Int):∃ a,ptrV adr k=.pointer a:=by
 unfold ptrV;split
 ·exact⟨_,rfl⟩
 ·exact⟨_,rfl⟩
theorem bsf_any(adr:Int->Nat)(ao:Option Addr)(cap:Nat)(ts:List Nd)(p:List UInt8)(w:World)(h:LayE w adr ao ts)(hso:Sorted ts)(hs:SmallE ts)(hl:ts.length<=1000)(hp:p.length<=maxLen) :
  Calls Tryz.prog 174 #[.slice ao ts.length cap,txt p,.func (.func 175) #[] #[]] w (PlacePost ts p w):=by
 have eg:∀ args w,(callFunc 175 args).run Tryz.prog w=.ok (.enter 175 args) w:=enters_of Tryz.func175 (by kernel_rfl) rfl;obtain⟨n,hn⟩:∃ n,ts.length=n:=⟨_,rfl⟩;have HN:=hid hn;have HL:=hid h;have HS:=hid hs;have HO:=hid hso;rw[hn]at hl ⊢;obtain⟨S,hS,a4⟩:=txt_of p
 have CP:Hid (∀ x∈ts,∀ W,Calls Tryz.prog 175 #[enV adr x,.string S] W fun r w'=>r=.returned (.int .i64 (NP.ordL x.path p))/\Below W.heap.size W w'):=hid (fun x hx W=>by
  rw[<- hS]
  exact pl1_any adr x p W (HS.out x hx) hp)
 rw[hS];clear h hn hS a4 hs hso hp;go_enter Tryz.func174,Tryz.ntmps174;repeat (first|go_skip|go_guarded|go_step|go_upon)
 go_loopw [9,10] (fun s9 s10 wr=>∃ lo hi:Nat,s9=.int .i64 lo/\s10=.int .i64 hi/\lo<=hi/\hi<=n/\Ahead ts p lo/\Behind ts p hi/\Below w.heap.size w wr) (fun s9 s10 _=>(RowKit.intOf s10).toNat-(RowKit.intOf s9).toNat)
 case atStart=>exact⟨0,n,rfl,rfl,Nat.zero_le _,Nat.le_refl _,Ahead.zero _ _,Behind.last (by rw[HN.out];exact Nat.le_refl _),Below.refl _ _⟩
 case round =>
  obtain⟨lo,hi,rfl,rfl,db,bu,hA,hB,hb⟩:=hrel;have HA:=hid hA;have bs:=hid hB;have HB:=hid hb;have aJ:=hb.size;have aZ:=hid (HL.out.below hb);clear hA hB hb;by_cases hlt:lo<hi
  ·obtain⟨m,hm⟩:∃ m,(lo+hi) / 2=m:=⟨_,rfl⟩;have b0:((lo:Int)+(hi:Int)) / 2=(m:Int):=by omega
   have cw:lo<=m:=by omega
   have cA:m<hi:=by omega
   have cg:m<n:=by omega
   have d5:(m:Int)<n:=by omega
   have aO:(lo:Int)<hi:=by omega
   obtain⟨g,o,rfl,hg,hc⟩:=aZ.out (by rw[HN.out];omega);obtain⟨x,hx⟩:∃ x,ts[m]?=some x:=⟨ts[m]'(by rw[HN.out];exact cg),getElem?_eq_getElem _⟩;have aw:=mem_of_getElem? hx;obtain⟨X,hX,_⟩:=txt_of x.path;obtain⟨a,ha⟩:=ptr_cases adr x.kind;obtain⟨c0,c1⟩:=hc m x hx;rw[hX]at c0;rw[ha]at c1;have cx:=CP.out x aw;unfold enV at cx;rw[hX,ha]at cx;obtain⟨z,hz⟩:∃ z,NP.ordL x.path p=z:=⟨_,rfl⟩;rw[hz]at cx;have CX:=hid cx;have HX:=hid hx;have HZ:=hid hz;clear hc hx hX aw cx hz hm hlt ha;by_cases ax:z<0
   ·have cu:Hid (Ahead ts p (m+1)):=hid (Ahead.of HO.out HX.out (by rw[HZ.out];exact ax));repeat (first|(go_at_fn 175;refine(CX.out _).mono ?_;rintro r w1 ⟨rfl,hb⟩;simp only[];have B1:=hid (Below.trans HB.out (hb.mono aJ));clear hb)|go_skip|go_guarded|go_step|go_upon)
    exact⟨⟨m+1,hi,by go_num,rfl,by omega,by omega,cu.out,bs.out,B1.out⟩,by simp[RowKit.intOf];omega⟩
   ·have ci:Hid (Behind ts p m):=hid (Behind.of HO.out HX.out (by rw[HZ.out];exact ax));repeat (first|(go_at_fn 175;refine(CX.out _).mono ?_;rintro r w1 ⟨rfl,hb⟩;simp only[];have B1:=hid (Below.trans HB.out (hb.mono aJ));clear hb)|go_skip|go_guarded|go_step|go_upon)
    exact⟨⟨lo,m,rfl,rfl,by omega,by omega,HA.out,ci.out,B1.out⟩,by simp[RowKit.intOf];omega⟩
  ·have aO:¬(lo:Int)<hi:=by omega
   obtain rfl:hi=lo:=by omega
   have aS:Hid (PlaceAt ts p hi):=hid ⟨by rw[HN.out];exact bu,HA.out,bs.out⟩;clear hlt;by_cases hln:hi<n
   ·have cm:(hi:Int)<n:=by omega
    obtain⟨g,o,rfl,hg,hc⟩:=aZ.out (by rw[HN.out];omega);obtain⟨x,hx⟩:∃ x,ts[hi]?=some x:=⟨ts[hi]'(by rw[HN.out];exact hln),getElem?_eq_getElem _⟩;have aw:=mem_of_getElem? hx;obtain⟨X,hX,_⟩:=txt_of x.path;obtain⟨a,ha⟩:=ptr_cases adr x.kind;obtain⟨c0,c1⟩:=hc hi x hx;rw[hX]at c0;rw[ha]at c1;have cx:=CP.out x aw;unfold enV at cx;rw[hX,ha]at cx;obtain⟨z,hz⟩:∃ z,NP.ordL x.path p=z:=⟨_,rfl⟩;rw[hz]at cx;have CX:=hid cx;obtain⟨b,d8⟩:∃ b,(z==0)=b:=⟨_,rfl⟩
    have bc:Hid (PlaceSays ts p hi b):=hid (by
     have e:=ord_zero x.path p;rw[hz,d8]at e;refine⟨aS.out,?_⟩;by_cases bd:x.path=p
     ·rw[decide_eq_true bd]at e;exact .inl ⟨e,x,hx,bd⟩
     ·rw[decide_eq_false bd]at e;refine .inr ⟨e,fun y hy=>?_⟩;rw[hx]at hy;cases hy
      exact bd)
    clear hc hx hX aw cx hz ha;repeat (first|(go_at_fn 175;refine(CX.out _).mono ?_;rintro r w1 ⟨rfl,hb⟩;simp only[];have B1:=hid (Below.trans HB.out (hb.mono aJ));clear hb)|go_skip|go_guarded|go_step|go_upon)
    go_ret2;exact⟨hi,b,rfl,bc.out,B1.out⟩
   ·have cm:¬(hi:Int)<n:=by omega
    have bc:Hid (PlaceSays ts p hi false):=hid ⟨aS.out,.inr ⟨rfl,fun y hy=>by
     have:=(List.getElem?_eq_some_iff.1 hy).1;have:=HN.out
     omega⟩⟩
    clear hln;repeat (first|go_skip|go_guarded|go_step|go_upon)
    go_ret2;exact⟨hi,false,rfl,bc.out,HB.out⟩
theorem dplace_any(adr:Int->Nat)(ao:Option Addr)(cap:Nat)(ts:List Nd)(p:List UInt8)(w:World)(h:LayE w adr ao ts)(hso:Sorted ts)(hs:SmallE ts)(hl:ts.length<=1000)(hp:p.length<=maxLen) :
  Calls Tryz.prog 126 #[.slice ao ts.length cap,txt p] w (PlacePost ts p w):=by
 have CB:=hid (bsf_any adr ao cap ts p w h hso hs hl hp);obtain⟨n,hn⟩:∃ n,ts.length=n:=⟨_,rfl⟩;obtain⟨S,hS,_⟩:=txt_of p;rw[hn,hS]at CB ⊢;clear h hso hs hl hp hn hS;go_enter Tryz.func126,Tryz.ntmps126;repeat (first|(go_at_call 174;refine CB.out.mono ?_;rintro r w1 ⟨k,b,rfl,hs,hb⟩;simp only[];have B1:=hid hb;have HS:=hid hs;clear hb hs)|go_skip|go_guarded|go_step|go_upon)
 go_ret2;exact⟨k,b,rfl,HS.out,B1.out⟩
def AtPost(adr:Int->Nat)(ts:List Nd)(p:List UInt8)(w:World)(r:Ending)(w':World):Prop :=
 (if p=[]then r=.returned (.pointer (some ⟨w.heap.size,0,none⟩))/\InoAt w' w.heap.size 0 ⟨0,2,0,[],false⟩else r=.returned (ptrV adr (inoN ts p)))/\Below w.heap.size w w'
theorem at_any(adr:Int->Nat)(ao:Option Addr)(cap:Nat)(ts:List Nd)(p:List UInt8)(w:World)(h:LayE w adr ao ts)(hso:Sorted ts)(hs:SmallE ts)(hl:ts.length<=1000)(hp:p.length<=maxLen) :
  Calls Tryz.prog 65 #[.slice ao ts.length cap,txt p] w (AtPost adr ts p w):=by
 have CB:=hid (dplace_any adr ao cap ts p w h hso hs hl hp);have HL:=hid h;have HO:=hid hso;obtain⟨n,hn⟩:∃ n,ts.length=n:=⟨_,rfl⟩;have HN:=hid hn;obtain⟨S,hS,a4⟩:=txt_of p;rw[hn,hS]at CB ⊢;have dO:(n:Int)<=1000:=by omega
 by_cases h0:p=[]
 ·have dt:S.toList.isEmpty=true:=by rw[toList_data,a4,h0];rfl
  clear h hso hs hl hp hn hS a4 CB;go_enter Tryz.func65,Tryz.ntmps65;repeat (first|go_skip|go_guarded|go_step|go_upon)
  go_ret;refine⟨?_,(Below.refl _ _).alloc (Nat.le_refl _) _⟩;rw[if_pos h0];exact⟨rfl,heap_alloc_new w _⟩
 ·have dt:S.toList.isEmpty=false:=by rw[toList_data,a4];simpa using h0
  have HP:=hid h0;clear h hso hs hl hp hn hS a4 h0;go_enter Tryz.func65,Tryz.ntmps65;repeat (first|go_skip|go_guarded|go_step|go_upon)
  refine CB.out.mono ?_;rintro r w1 ⟨k,b,rfl,⟨aL,bg⟩,hb⟩;simp only[];have B1:=hid hb;have dm:=hid (HL.out.below hb);rcases bg with ⟨rfl,x,hx,bd⟩|⟨rfl,aj⟩
  ·have cX:=(List.getElem?_eq_some_iff.1 hx).1;have bi:(k:Int)<n:=by have:=HN.out;omega
   obtain⟨g,o,rfl,_,hc⟩:=dm.out (by omega);have c1:=(hc k x hx).i;have HI:Hid (inoN ts p=x.kind):=hid (by unfold inoN;rw[place_yes HO.out hx bd]);obtain⟨a,ha⟩:=ptr_cases adr x.kind;have HA:=hid ha;rw[ha]at c1;clear hb aL hx bd hc cX ha;repeat (first|go_skip|go_guarded|go_step|go_upon)
   go_ret;refine⟨?_,B1.out⟩;rw[if_neg HP.out,HI.out,HA.out];rfl
  ·have HI:Hid (inoN ts p=0):=hid (by unfold inoN;rw[place_no HO.out aL aj]);clear hb aL aj;repeat (first|go_skip|go_guarded|go_step|go_upon)
   go_ret;refine⟨?_,B1.out⟩;rw[if_neg HP.out,HI.out];rfl
theorem kind_ino{I:List Ino}{ns:List Nd}{p:List UInt8}{m:Nat}(hp:p≠[])(hr:Row m ns):(inoN ns p=0/\kindN I ns p=0)\/(∃ e∈ns,e.path=p/\findN ns p=some e/\inoN ns p=e.kind/\e.kind≠0/\kindN I ns p=(inoOf I e.kind).kind):=by
 unfold inoN kindN;rw[if_neg hp]
 cases hf:findN ns p with
 | none=>exact .inl ⟨rfl,rfl⟩
 | some e =>
  obtain⟨he,bY⟩:=find_mem hf;obtain⟨k,h1,h2,h3⟩:=hr.ino e he;refine .inr ⟨e,he,bY,rfl,rfl,?_,rfl⟩;rw[h1];show((k:Int))≠0;omega
theorem kind_any(adr:Int->Nat)(ao:Option Addr)(cap:Nat)(ts:List Nd)(I:List Ino)(p:List UInt8)(w:World)(h:LayE w adr ao ts)(hi:LayI w adr ts I){m:Nat}(hr:Row m ts)(hs:SmallE ts)(hp:p.length<=maxLen) :
  Calls Tryz.prog 57 #[.slice ao ts.length cap,txt p] w fun r w'=>r=.returned (.int .i64 (kindN I ts p))/\Below w.heap.size w w':=by
 have CB:=hid (at_any adr ao cap ts p w h hr.sorted hs hr.len hp);have HI:=hid hi;have HR:=hid hr;obtain⟨n,hn⟩:∃ n,ts.length=n:=⟨_,rfl⟩;obtain⟨S,hS,a4⟩:=txt_of p;rw[hn,hS]at CB ⊢;clear h hi hr hs hp hn hS a4;go_enter Tryz.func57,Tryz.ntmps57;repeat (first|go_skip|go_guarded|go_step|go_upon)
 refine CB.out.mono ?_;rintro r w1 ⟨ha,hb⟩;have B1:=hid hb;by_cases h0:p=[]
 ·rw[if_pos h0]at ha;obtain⟨rfl,aK⟩:=ha;simp only[];obtain⟨-,-,c2,-,-,-⟩:=aK.cells;have HF:Hid (kindN I ts p=2):=hid (by unfold kindN;rw[if_pos h0]);clear hb aK h0;repeat (first|go_skip|go_guarded|go_step|go_upon)
  go_ret;exact⟨by rw[HF.out];rfl,B1.out⟩
 ·rw[if_neg h0]at ha;subst ha;simp only[];rcases kind_ino (I:=I) h0 HR.out with ⟨h1,h2⟩|⟨e,he,bY,hf,h1,h3,h2⟩
  ·have HF:=hid h2;rw[h1];have e0:ptrV adr 0=.pointer none:=rfl;rw[e0];clear hb h1 h2 h0 e0;repeat (first|go_skip|go_guarded|go_step|go_upon)
   go_ret;exact⟨by rw[HF.out];rfl,B1.out⟩
  ·obtain⟨-,-,c2,-,-,-⟩:=(HI.out.below hb e he h3).cells;have HF:=hid h2;rw[h1,ptr_pos adr h3];obtain⟨g,hg⟩:∃ g,adr e.kind=g:=⟨_,rfl⟩;obtain⟨z,hz⟩:∃ z,(inoOf I e.kind).kind=z:=⟨_,rfl⟩;rw[hz]at HF c2;rw[hg]at c2 ⊢;clear hb h1 h2 h0 hf he bY h3 hg hz;repeat (first|go_skip|go_guarded|go_step|go_upon)
   go_ret;exact⟨by rw[HF.out];rfl,B1.out⟩
end DG
end
section
open Go.RowKit Go.Lib Go.BigFrame
namespace DG
open OM TP TM DP DM TG
theorem small_of{l:List UInt8}(h:NP.pathL l=true):l.length<=1048576:=by have:=((path_iff l).1 h).1;omega
theorem row_small{m:Nat}{ns:List Nd}(h:Row m ns):SmallE ns:=fun e he=>by have:=small_of (h.path e he);unfold maxLen;omega
structure EnSl(T:TypeId):Prop where
 under:Tryz.prog.underlying T=some (.slice (Tryz.prog.elem T))
 size:∀ W,(sizeOf (Tryz.prog.elem T)).run Tryz.prog W=.ok 2 W
theorem ensl_names:EnSl 119:=⟨by kernel_rfl,fun W=>by rw[show Tryz.prog.elem 119=125 by kernel_rfl];simp[go_sem]⟩
theorem layE_piece{W:World}{adr:Int->Nat}{ao:Option Addr}{ts:List Nd}(h:LayE W adr ao ts)(i j:Nat):LayE W adr (ao.map (·.add (i*2))) ((ts.take j).drop i):=fun h0=>by
 rw[length_drop,length_take]at h0;obtain⟨g,o,rfl,hg,hc⟩:=h (by omega);refine⟨g,o+i*2,?_,hg,fun k n hk=>?_⟩
 ·simp[Addr.add]
 ·rw[getElem?_drop,getElem?_take]at hk;split at hk
  ·have:=hc _ n hk;rw[show o+i*2+k*2=o+(i+k)*2 by omega];exact this
  ·cases hk
theorem esl_lh{T:TypeId}(hT:EnSl T)(adr:Int->Nat)(ao:Option Addr)(ts:List Nd)(n i j cap:Nat)(cP:i<=j)(hj:j<=cap) :
  ∃ aN c',(∀ W,(Instr.slice T (.slice ao n cap) (some (.int .i64 (i:Nat))) (some (.int .i64 (j:Nat))) none).run Tryz.prog W=.ok (.slice aN (j-i) c') W) /\
   (∀ W,LayE W adr ao ts->LayE W adr aN ((ts.take j).drop i)):=by
 refine⟨if cap=i then ao else ao.map (·.add (i*2)),cap-i,fun W=>?_,fun W h=>?_⟩
 ·rw[run_slice_lh W T ao n cap hT.under .i64 .i64 i j (by omega) (by omega) (by omega),hT.size];simp only[Result.andThen,sliced,Int.toNat_natCast]
 ·by_cases hc:cap=i
  ·have:(ts.take j).drop i=[]:=List.drop_eq_nil_of_le (by rw[length_take];omega);rw[this];exact LayE.nil _ _ _
  ·rw[if_neg hc];exact layE_piece h i j
theorem dwc_any(adr:Int->Nat)(bl bf bp:Nat)(W:World)(he:NF.Env W)(ao:Option Addr)(cap:Nat)(ts:List Nd)(p:List UInt8)(f i:Nat)(x:Nd)
  (hl:W.cell? ⟨bl,0,none⟩=some (.slice ao ts.length cap)) (hf:W.cell? ⟨bf,0,none⟩=some (.int .i64 f)) (hp:W.cell? ⟨bp,0,none⟩=some (txt p))
  (h:LayE W adr ao ts) (hs:∀ e∈ts,NP.pathL e.path=true) (hlen:ts.length<=1000) (hx:ts[f+i]?=some x) :
  Calls Tryz.prog 159 #[.int .i64 i,.pointer (some ⟨bl,0,none⟩),.pointer (some ⟨bf,0,none⟩),.pointer (some ⟨bp,0,none⟩)] W fun r w'=>r=.returned (.bool (!NP.withinL x.path p))/\Below W.heap.size W w':=by
 obtain⟨n,hn⟩:∃ n,ts.length=n:=⟨_,rfl⟩;obtain⟨m,hm⟩:∃ m,f+i=m:=⟨_,rfl⟩;have b0:(f:Int)+(i:Int)=m:=by omega
 rw[hm]at hx;have cO:=(List.getElem?_eq_some_iff.1 hx).1;rw[hn]at hl hlen cO;have cg:(m:Int)<n:=by omega
 obtain⟨g,o,rfl,hg,hc⟩:=h (by omega);obtain⟨X,hX,cQ⟩:=txt_of x.path;obtain⟨S,hS,a4⟩:=txt_of p;obtain⟨b,hb⟩:∃ b,NP.withinL x.path p=b:=⟨_,rfl⟩;have c0:=(hc m x hx).p;rw[hX]at c0;rw[hS]at hp;have aw:=mem_of_getElem? hx
 have D:=hid (reg_g (w:=W) (f:=109) (args:=#[.string X,.string S]) (v:=.bool b) (fun W' hW=>by
  have:=within_txt X S x.path p W' (he.below hW) cQ a4 (small_of (hs x aw));rw[hb]at this
  exact this))
 have fl:=cell_regrown hl;have ff:=cell_regrown hf;have fp:=cell_regrown hp;have f0:=cell_regrown c0;rw[hb];clear hb hX cQ hS a4 aw hs hc hx h hn hm he cO;go_enter Tryz.func159,Tryz.ntmps159;repeat (first|go_skip|go_guarded|go_step|go_upon)
 with_reducible refine wp_region_quiet_below (by kernel_rfl) (by kernel_rfl) ?_
 repeat (go_big_quiet_step (first|(go_at_call 109;exact D.out _ _)))
 refine wpQuiet_nil ?_;intro _ hw';obtain⟨⟨dq,au⟩,ay⟩:=hw';subst ay;have W5:Hid (Below W.heap.size W (Go.Sort.grow (redrawn W dq) au)):=hid (below_regrown W dq au);clear fl ff fp f0 hl hf hp c0;generalize Go.Sort.grow (redrawn W dq) au=w5 at W5 ⊢;repeat (first|go_skip|go_guarded|go_step|go_upon)
 go_ret;exact⟨rfl,W5.out⟩
theorem dsearch_any(bl bf bp n:Nat)(q:Nat->Bool)(w:World)(hn:n<=1000)
  (hf:∀ W i,Below w.heap.size w W->i<n->Calls Tryz.prog 159 #[.int .i64 i,.pointer (some ⟨bl,0,none⟩),.pointer (some ⟨bf,0,none⟩),.pointer (some ⟨bp,0,none⟩)] W fun r w'=>r=.returned (.bool (q i))/\Below W.heap.size W w')
  (hm:∀ a b,a<=b->b<n->q a=true->q b=true) :
  Calls Tryz.prog 158 #[.int .i64 n,.func (.func 159) #[] #[.pointer (some ⟨bl,0,none⟩),.pointer (some ⟨bf,0,none⟩),.pointer (some ⟨bp,0,none⟩)]] w (SearchPost q n w):=by
 have eg:∀ args w,(callFunc 159 args).run Tryz.prog w=.ok (.enter 159 args) w:=enters_of Tryz.func159 (by kernel_rfl) rfl;have HF:=hid hf;have HM:=hid hm;clear hf hm;go_enter Tryz.func158,Tryz.ntmps158;repeat (first|go_skip|go_guarded|go_step|go_upon)
 go_loopw [5,6] (fun s5 s6 wr=>∃ lo hi:Nat,s5=.int .i64 lo/\s6=.int .i64 hi/\lo<=hi/\hi<=n/\(∀ t,t<lo->q t=false)/\(∀ t,hi<=t->t<n->q t=true)/\Below w.heap.size w wr) (fun s5 s6 _=>(RowKit.intOf s6).toNat-(RowKit.intOf s5).toNat)
 case atStart=>exact⟨0,n,rfl,rfl,Nat.zero_le _,Nat.le_refl _,fun t h=>by omega,fun t h1 h2=>by omega,Below.refl _ _⟩
 case round =>
  obtain⟨lo,hi,rfl,rfl,db,bu,hA,hB,hb⟩:=hrel;have HA:=hid hA;have bs:=hid hB;have HB:=hid hb;have aJ:=hb.size;clear hA hB hb;by_cases hlt:lo<hi
  ·obtain⟨m,hm⟩:∃ m,(lo+hi) / 2=m:=⟨_,rfl⟩;have b0:((lo:Int)+(hi:Int)) / 2=(m:Int):=by omega
   have cw:lo<=m:=by omega
   have cA:m<hi:=by omega
   have aO:(lo:Int)<hi:=by omega
   have cx:=HF.out wr m HB.out (by omega)
   cases hq:q m with
   | false =>
    rw[hq]at cx;have CX:=hid cx
    have cu:Hid (∀ t,t<m+1->q t=false):=hid (fun t ht=>by
     cases h:q t with
     | false=>rfl
     | true=>rw[HM.out t m (by omega) (by omega) h]at hq;cases hq)
    clear hm hlt cx hq;repeat (first|(go_at_fn 159;refine CX.out.mono ?_;rintro r w1 ⟨rfl,hb⟩;simp only[];have B1:=hid (Below.trans HB.out (hb.mono aJ));clear hb)|go_skip|go_guarded|go_step|go_upon)
    exact⟨⟨m+1,hi,by go_num,rfl,by omega,by omega,cu.out,bs.out,B1.out⟩,by simp[RowKit.intOf];omega⟩
   | true =>
    rw[hq]at cx;have CX:=hid cx;have ci:Hid (∀ t,m<=t->t<n->q t=true):=hid (fun t h1 h2=>HM.out m t h1 h2 hq);clear hm hlt cx hq;repeat (first|(go_at_fn 159;refine CX.out.mono ?_;rintro r w1 ⟨rfl,hb⟩;simp only[];have B1:=hid (Below.trans HB.out (hb.mono aJ));clear hb)|go_skip|go_guarded|go_step|go_upon)
    exact⟨⟨lo,m,rfl,rfl,by omega,by omega,HA.out,ci.out,B1.out⟩,by simp[RowKit.intOf];omega⟩
  ·have aO:¬(lo:Int)<hi:=by omega
   obtain rfl:hi=lo:=by omega
   clear hlt;repeat (first|go_skip|go_guarded|go_step|go_upon)
   go_ret;exact⟨hi,rfl,bu,HA.out,bs.out,HB.out⟩
def InPost(adr:Int->Nat)(ao:Option Addr)(ts:List Nd)(p:List UInt8)(w:World)(r:Ending)(w':World):Prop :=
 ∃ aN c',r=.returned (.slice aN (inE ts p).length c')/\(∀ W,LayE W adr ao ts->LayE W adr aN (inE ts p))/\Below w.heap.size w w'
theorem dwithin_any(adr:Int->Nat)(ao:Option Addr)(cap:Nat)(ts:List Nd)(p:List UInt8)(w:World)(he:NF.Env w)(h:LayE w adr ao ts){mm:Nat}(hr:Row mm ts)(az:ts.length<=cap)(hp:p.length<=maxLen) :
  Calls Tryz.prog 108 #[.slice ao ts.length cap,txt p] w (InPost adr ao ts p w):=by
 have CP:Hid (∀ W,Below w.heap.size w W->Calls Tryz.prog 126 #[.slice ao ts.length cap,txt p] W (PlacePost ts p W)):=hid (fun W hW=>dplace_any adr ao cap ts p W (h.below hW) hr.sorted (row_small hr) hr.len hp);have HL:=hid h;have HR:=hid hr;have HE:=hid he;have hl:=hr.len;have cq:Hid (∀ i j,i<=j->j<=cap->∃ aN c',(∀ W,(Instr.slice 119 (.slice ao ts.length cap) (some (.int .i64 (i:Nat))) (some (.int .i64 (j:Nat))) none).run Tryz.prog W=.ok (.slice aN (j-i) c') W)/\(∀ W,LayE W adr ao ts->LayE W adr aN ((ts.take j).drop i))):=hid (fun i j=>esl_lh ensl_names adr ao ts ts.length i j cap);obtain⟨n,hn⟩:∃ n,ts.length=n:=⟨_,rfl⟩;have HN:=hid hn;obtain⟨S,hS,a4⟩:=txt_of p;have cV:=hid hS;rw[hn,hS]at CP ⊢;rw[hn]at hl cq az;have B0:Hid (Below w.heap.size w ((w.alloc (.cells #[.slice ao n cap] 119)).alloc (.cells #[.string S] 9))):=hid (((Below.refl _ _).alloc (Nat.le_refl _) _).alloc (by simp) _)
 have L0:Hid (((w.alloc (.cells #[.slice ao n cap] 119)).alloc (.cells #[.string S] 9)).cell? ⟨w.heap.size,0,none⟩=some (.slice ao n cap)):=hid (by
  have:=cell_box w (.slice ao n cap) 119
  exact(((Below.refl (w.alloc (.cells #[.slice ao n cap] 119)).heap.size _).alloc (Nat.le_refl _) (.cells #[.string S] 9)).cell (p:=⟨w.heap.size,0,none⟩) (by simp)).trans this)
 have P0:Hid (((w.alloc (.cells #[.slice ao n cap] 119)).alloc (.cells #[.string S] 9)).cell? ⟨w.heap.size+1,0,none⟩=some (.string S)):=hid (by
  have:=cell_box (w.alloc (.cells #[.slice ao n cap] 119)) (.string S) 9;rw[show(w.alloc (.cells #[.slice ao n cap] 119)).heap.size=w.heap.size+1 by simp]at this
  exact this)
 clear h hr hn hS a4 hp he;go_enter Tryz.func108,Tryz.ntmps108;repeat (first|go_skip|go_guarded|go_step|go_upon)
 refine(CP.out _ B0.out).mono ?_;rintro r w1 ⟨k,b,rfl,⟨aL,_⟩,hb⟩;simp only[];have B1:=hid (Below.trans B0.out (hb.mono B0.out.size));have l1:w1.cell? ⟨w.heap.size,0,none⟩=some (.slice ao n cap):=(hb.cell (p:=⟨w.heap.size,0,none⟩) (by simp;omega)).trans L0.out;have p1:w1.cell? ⟨w.heap.size+1,0,none⟩=some (.string S):=(hb.cell (p:=⟨w.heap.size+1,0,none⟩) (by simp)).trans P0.out;have al:w.heap.size+1<w1.heap.size:=by have:=hb.size;simp at this;omega
 obtain⟨w2,bD⟩:∃ w2,w1.alloc (.cells #[.int .i64 (k:Int)] 3)=w2:=⟨_,rfl⟩;have bK:Below w1.heap.size w1 w2:=by rw[<- bD];exact(Below.refl _ _).alloc (Nat.le_refl _) _
 have ar:w2.heap.size=w1.heap.size+1:=by rw[<- bD];simp
 have f2:w2.cell? ⟨w1.heap.size,0,none⟩=some (.int .i64 (k:Int)):=by rw[<- bD];exact cell_box w1 _ _
 have l2:w2.cell? ⟨w.heap.size,0,none⟩=some (.slice ao n cap):=(bK.cell (p:=⟨w.heap.size,0,none⟩) (by show w.heap.size<_;omega)).trans l1;have p2:w2.cell? ⟨w.heap.size+1,0,none⟩=some (.string S):=(bK.cell (p:=⟨w.heap.size+1,0,none⟩) al).trans p1;have B2:=hid (Below.trans B1.out (bK.mono B1.out.size));have bC:k<=n:=by have:=aL.le;have:=HN.out;omega
 obtain⟨q,hq⟩:∃ q,n-k=q:=⟨_,rfl⟩;have dG:(n:Int)-(k:Int)=(q:Int):=by omega
 have aS:=hid aL
 have CS:Hid (Calls Tryz.prog 158 #[.int .i64 q,.func (.func 159) #[] #[.pointer (some ⟨w.heap.size,0,none⟩),.pointer (some ⟨w1.heap.size,0,none⟩),.pointer (some ⟨w.heap.size+1,0,none⟩)]] w2 (SearchPost (fun i=>match ts[k+i]? with|some x=>!NP.withinL x.path p|none=>true) q w2)):=hid (by
  refine dsearch_any _ _ _ q _ w2 (by omega) (fun W i hW hi=>?_) (fun a b hab aW ha=>?_)
  ·obtain⟨x,hx⟩:∃ x,ts[k+i]?=some x:=⟨ts[k+i]'(by rw[HN.out];omega),getElem?_eq_getElem _⟩;have:=dwc_any adr w.heap.size w1.heap.size (w.heap.size+1) W (HE.out.below (Below.trans B2.out (hW.mono B2.out.size))) ao cap ts p k i x (by rw[HN.out];exact(hW.cell (p:=⟨w.heap.size,0,none⟩) (by show w.heap.size<_;omega)).trans l2) ((hW.cell (p:=⟨w1.heap.size,0,none⟩) (by show w1.heap.size<_;omega)).trans f2) (by rw[cV.out];exact(hW.cell (p:=⟨w.heap.size+1,0,none⟩) (by show w.heap.size+1<_;omega)).trans p2) (HL.out.below (Below.trans B2.out (hW.mono B2.out.size))) HR.out.path HR.out.len hx;rw[hx];exact this
  ·obtain⟨x,hx⟩:∃ x,ts[k+a]?=some x:=⟨ts[k+a]'(by rw[HN.out];omega),getElem?_eq_getElem _⟩;obtain⟨y,hy⟩:∃ y,ts[k+b]?=some y:=⟨ts[k+b]'(by rw[HN.out];omega),getElem?_eq_getElem _⟩;rw[hx]at ha;rw[hy];simp only[Bool.not_eq_true']at ha ⊢;rw[Bool.eq_false_iff];intro e;rw[within_mono HR.out.sorted HR.out.path aS.out (show k<=k+a by omega) (show k+a<=k+b by omega) hx hy e]at ha
   cases ha)
 have HZ:=hid ar;have HQ:=hid hq;clear aL hb p2 ar hq;repeat (first|go_skip|go_guarded|go_step|go_upon)
 refine CS.out.mono ?_;rintro r w3 ⟨c,rfl,hc,h1,h2,hb⟩;simp only[]
 have aU:Cut ts p k (k+c):=cut_of HR.out.sorted HR.out.path aS.out (by have:=HN.out;have:=HQ.out;omega)
  (fun t ht x hx=>by have:=h1 t ht;simp only[hx]at this;exact this)
  (fun t h3 h4 x hx=>by have:=h2 t h3 (by have:=HN.out;have:=HQ.out;omega);simp only[hx]at this;exact this)
 have B3:=hid (Below.trans B2.out (hb.mono B2.out.size));have f3:w3.cell? ⟨w1.heap.size,0,none⟩=some (.int .i64 (k:Int)):=(hb.cell (p:=⟨w1.heap.size,0,none⟩) (by show w1.heap.size<_;rw[HZ.out];omega)).trans f2;have l3:w3.cell? ⟨w.heap.size,0,none⟩=some (.slice ao n cap):=(hb.cell (p:=⟨w.heap.size,0,none⟩) (by show w.heap.size<_;rw[HZ.out];omega)).trans l2;obtain⟨m,hm⟩:∃ m,k+c=m:=⟨_,rfl⟩;have b0:(k:Int)+(c:Int)=m:=by omega
 have cg:m<=n:=by have:=aU.le;have:=HN.out;omega
 have di:k<=m:=by omega
 rw[hm]at aU;obtain⟨aN,c',dL,av⟩:=cq.out k m di (by omega);have cM:Hid (inE ts p=(ts.take m).drop k):=hid (aU.filter HR.out.path);have bW:Hid ((inE ts p).length=m-k):=hid (by rw[cM.out,length_drop,length_take,HN.out];omega);have dv:=hid av;clear hc h1 h2 hb aU f2 l1 p1 bD bK l2 hm av cq;repeat (first|go_skip|go_guarded|go_step|go_upon)
 go_ret;refine⟨aN,c',by rw[bW.out];rfl,fun W hW=>?_,B3.out⟩;rw[cM.out];exact dv.out W hW
end DG
end
section
open Go.RowKit Go.Lib Go.BigFrame
namespace DG
open OM TP TM DP DM TG
theorem results_cell1{fn:Func}{p:Tmp}{ty:TypeId}(h:fn.results=#[.cell p ty])(tmps:Array Value)(P:Program)(w:World) :
  (results fn tmps).run P w=((asAddr (tmps.getD p undef)).run P w).andThen fun a w₁=>(loadVar ty a).run P w₁:=by
 simp only[results,h];simp[Sem.run_bind,Result.andThen]
theorem results_cell2{fn:Func}{p q u:Tmp}{ty ty2:TypeId}(h:fn.results=#[.cell p ty,.cell q ty2,.tmp u])(tmps:Array Value)(P:Program)(w:World) :
  (results fn tmps).run P w=((asAddr (tmps.getD p undef)).run P w).andThen fun a w₁=>((loadVar ty a).run P w₁).andThen fun v w₂=>((asAddr (tmps.getD q undef)).run P w₂).andThen fun b w₃=>((loadVar ty2 b).run P w₃).andThen fun v2 w₄=>.ok (.tuple #[v,v2,tmps.getD u undef]) w₄:=by
 simp only[results,h];simp[Sem.run_bind,Result.andThen]
theorem row3{W:World}{b:Nat}{a0 a1 a2:Value}{t:TypeId}(h:W.heap[b]?=some (.cells #[a0,a1,a2] t (0,0))) :
  W.cell? ⟨b,0,none⟩=some a0/\W.cell? ⟨b,1,none⟩=some a1/\W.cell? ⟨b,2,none⟩=some a2/\∀ j,W.frozen? ⟨b,j,none⟩=false :=
 ⟨by rw[cell_of_row W b 0 _ _ _ h];rfl,by rw[cell_of_row W b 1 _ _ _ h];rfl,by rw[cell_of_row W b 2 _ _ _ h];rfl,fun j=>frozen_of_row W b j _ _ h⟩
theorem row2{W:World}{b:Nat}{a0 a1:Value}{t:TypeId}(h:W.heap[b]?=some (.cells #[a0,a1] t (0,0))) :
  W.cell? ⟨b,0,none⟩=some a0/\W.cell? ⟨b,1,none⟩=some a1/\∀ j,W.frozen? ⟨b,j,none⟩=false :=
 ⟨by rw[cell_of_row W b 0 _ _ _ h];rfl,by rw[cell_of_row W b 1 _ _ _ h];rfl,fun j=>frozen_of_row W b j _ _ h⟩
theorem below3g{w W:World}(h:Below w.heap.size w W)(a b c:Value):Below w.heap.size w (((W.setCell ⟨w.heap.size,0,none⟩ a).setCell ⟨w.heap.size,1,none⟩ b).setCell ⟨w.heap.size,2,none⟩ c) :=
 ((h.setCell (p:=⟨w.heap.size,0,none⟩) (Nat.le_refl _) _).setCell (p:=⟨w.heap.size,1,none⟩) (Nat.le_refl _) _).setCell (p:=⟨w.heap.size,2,none⟩) (Nat.le_refl _) _
theorem inoAt_below{W W':World}{g:Nat}{k:Int}{i:Ino}(h:InoAt W g k i)(hb:Below W.heap.size W W'):InoAt W' g k i:=by
 unfold InoAt at h ⊢;rw[hb.block _ (Array.getElem?_eq_some_iff.1 h).1];exact h
theorem node_any(g:Nat)(k:Int)(i:Ino)(p:List UInt8)(w:World)(h:InoAt w g k i) :
  Calls Tryz.prog 127 #[.pointer (some ⟨g,0,none⟩),txt p] w fun r w'=>r=.returned (ndVal ⟨p,i.kind,i.data,i.mode⟩)/\Below w.heap.size w w':=by
 obtain⟨S,hS,_⟩:=txt_of p;obtain⟨D,hD,_⟩:=txt_of i.data;obtain⟨kd,bZ⟩:∃ x,i.kind=x:=⟨_,rfl⟩;obtain⟨md,cB⟩:∃ x,i.mode=x:=⟨_,rfl⟩;have B0:Hid (Below w.heap.size w (w.alloc (.cells #[.string ⟨#[]⟩,.int .i64 0,.string ⟨#[]⟩,.int .i64 0] 45))):=hid ((Below.refl _ _).alloc (Nat.le_refl _) _);have hc:=(inoAt_below h B0.out).cells;rw[bZ,cB,hD]at hc;obtain⟨-,-,c2,c3,c4,-⟩:=hc;have f2:=cell_regrown c2;have f3:=cell_regrown c3;have f4:=cell_regrown c4;have R0:Hid ((w.alloc (.cells #[.string ⟨#[]⟩,.int .i64 0,.string ⟨#[]⟩,.int .i64 0] 45)).heap[w.heap.size]?=some (.cells #[.string ⟨#[]⟩,.int .i64 0,.string ⟨#[]⟩,.int .i64 0] 45 (0,0))):=hid (heap_alloc_new w _);unfold ndVal;simp only;rw[hS,hD,bZ,cB];clear h hS hD bZ cB c2 c3 c4;go_enter Tryz.func127,Tryz.ntmps127;repeat (first|go_skip|go_guarded|go_step|go_upon)
 with_reducible refine QT.region_tail 14 (by kernel_rfl) (by kernel_rfl) ?_
 simp only[take_succ_cons,take_zero,drop_succ_cons,drop_zero];repeat (go_big_quiet_step (fail))
 refine wpQuiet_nil ?_;intro _ hw';obtain⟨⟨dq,au⟩,ay⟩:=hw';subst ay;have aW:=below_regrown (w.alloc (.cells #[.string ⟨#[]⟩,.int .i64 0,.string ⟨#[]⟩,.int .i64 0] 45)) dq au;have W5:Hid (Below w.heap.size w (Go.Sort.grow (redrawn (w.alloc (.cells #[.string ⟨#[]⟩,.int .i64 0,.string ⟨#[]⟩,.int .i64 0] 45)) dq) au)):=hid (Below.trans B0.out (aW.mono B0.out.size));have r5:=(aW.block w.heap.size (by simp)).trans R0.out;clear f2 f3 f4 aW;generalize Go.Sort.grow (redrawn (w.alloc (.cells #[.string ⟨#[]⟩,.int .i64 0,.string ⟨#[]⟩,.int .i64 0] 45)) dq) au=w5 at W5 r5 ⊢;obtain⟨t0,t1,t2,t3,tf⟩:=row4 r5;clear r5;repeat (first|go_skip|go_guarded|go_step|go_upon)
 refine bodyPost_ret (v:=.agg #[.string S,.int .i64 kd,.string D,.int .i64 md]) ?_ rfl ⟨rfl,below4g W5.out _ _ _ _⟩;rw[results_cell1 rfl];go_simp
def stampVal(s:Stamp):Value:=.agg #[.int .i64 s.ino,.int .i64 s.size,.int .i64 s.time]
theorem stamp_any(g:Nat)(k:Int)(i:Ino)(w:World)(h:InoAt w g k i) :
  Calls Tryz.prog 130 #[.pointer (some ⟨g,0,none⟩)] w fun r w'=>r=.returned (stampVal ⟨k,i.data.length,i.time⟩)/\Below w.heap.size w w':=by
 obtain⟨D,hD,cE⟩:=txt_of i.data;obtain⟨tm,bO⟩:∃ x,i.time=x:=⟨_,rfl⟩;have cJ:D.size=i.data.length:=by rw[size_eq,cE]
 have B0:Hid (Below w.heap.size w (w.alloc (.cells #[.int .i64 0,.int .i64 0,.int .i64 0] 47))):=hid ((Below.refl _ _).alloc (Nat.le_refl _) _);have hc:=(inoAt_below h B0.out).cells;rw[bO,hD]at hc;obtain⟨c0,c1,-,-,c4,-⟩:=hc;have f0:=cell_regrown c0;have f1:=cell_regrown c1;have f4:=cell_regrown c4;have R0:Hid ((w.alloc (.cells #[.int .i64 0,.int .i64 0,.int .i64 0] 47)).heap[w.heap.size]?=some (.cells #[.int .i64 0,.int .i64 0,.int .i64 0] 47 (0,0))):=hid (heap_alloc_new w _);unfold stampVal;simp only;rw[bO,← cJ];clear h hD bO c0 c1 c4 cJ cE;go_enter Tryz.func130,Tryz.ntmps130;repeat (first|go_skip|go_guarded|go_step|go_upon)
 with_reducible refine QT.region_tail 14 (by kernel_rfl) (by kernel_rfl) ?_
 simp only[take_succ_cons,take_zero,drop_succ_cons,drop_zero];repeat (go_big_quiet_step (fail))
 refine wpQuiet_nil ?_;intro _ hw';obtain⟨⟨dq,au⟩,ay⟩:=hw';subst ay;have aW:=below_regrown (w.alloc (.cells #[.int .i64 0,.int .i64 0,.int .i64 0] 47)) dq au;have W5:Hid (Below w.heap.size w (Go.Sort.grow (redrawn (w.alloc (.cells #[.int .i64 0,.int .i64 0,.int .i64 0] 47)) dq) au)):=hid (Below.trans B0.out (aW.mono B0.out.size));have r5:=(aW.block w.heap.size (by simp)).trans R0.out;clear f0 f1 f4 aW;generalize Go.Sort.grow (redrawn (w.alloc (.cells #[.int .i64 0,.int .i64 0,.int .i64 0] 47)) dq) au=w5 at W5 r5 ⊢;obtain⟨t0,t1,t2,tf⟩:=row3 r5;clear r5;repeat (first|go_skip|go_guarded|go_step|go_upon)
 refine bodyPost_ret (v:=.agg #[.int .i64 k,.int .i64 (D.size:Nat),.int .i64 tm]) ?_ rfl ⟨rfl,below3g W5.out _ _ _⟩;rw[results_cell1 rfl];go_simp
theorem dnoPath_any(adr:Int->Nat)(e:Nd)(w:World)(he:NF.Env w)(hn:e.path.length<=maxLen) :
  Calls Tryz.prog 112 #[enV adr e] w fun r w'=>r=.returned (.bool (!NP.pathL e.path))/\Below w.heap.size w w':=by
 obtain⟨q,k,d,m⟩:=e;obtain⟨Q,hQ,bo⟩:=txt_of q;unfold enV;simp only at hn ⊢;rw[hQ];obtain⟨a,ha⟩:=ptr_cases adr k;obtain⟨b,hb⟩:∃ b,NP.pathL q=b:=⟨_,rfl⟩
 have CO:Hid (∀ W,Below w.heap.size w W->Calls Tryz.prog 60 #[.string Q] W fun e w'=>e=.returned (.bool b)/\Below W.heap.size W w'):=hid (fun W hW=>by
  rw[<- hb];subst bo
  exact NF.path_any Q W (he.below hW) (by rw[size_eq];exact hn))
 have B0:Hid (Below w.heap.size w (w.alloc (.cells #[.string Q,.pointer a] 125))):=hid ((Below.refl _ _).alloc (Nat.le_refl _) _);rw[hb,ha];clear hQ bo hb hn he ha;go_enter Tryz.func112,Tryz.ntmps112;repeat (first|(go_at_call 60;refine OM.onB (CO.out _ B0.out) B0 ?_;intro w1 B1;simp only[])|go_skip|go_guarded|go_step|go_upon)
 go_ret;exact⟨rfl,B1.out⟩
def badE(ns:List Nd):Bool:=ns.any fun e=>!NP.pathL e.path
def IdxPost(ns:List Nd)(w:World)(r:Ending)(w':World):Prop :=
 ∃ z:Int,r=.returned (.int .i64 z)/\decide (0<=z)=badE ns/\Below w.heap.size w w'
theorem bad_step{ns:List Nd}{k:Nat}{x:Nd}(hx:ns[k]?=some x)(h:badE (ns.take k)=false)(hp:NP.pathL x.path=true):badE (ns.take (k+1))=false:=by
 unfold badE at h ⊢;rw[List.take_succ_eq_append_getElem (List.getElem?_eq_some_iff.1 hx).1,(List.getElem?_eq_some_iff.1 hx).2,List.any_append,h];simp[hp]
theorem bad_here{ns:List Nd}{k:Nat}{x:Nd}(hx:ns[k]?=some x)(hp:NP.pathL x.path=false):badE ns=true:=by
 unfold badE;exact List.any_eq_true.2 ⟨x,mem_of_getElem? hx,by rw[hp];rfl⟩
theorem dindex_any(adr:Int->Nat)(ao:Option Addr)(cap:Nat)(ns:List Nd)(w:World)(he:NF.Env w)(h:LayE w adr ao ns)(hs:SmallE ns)(hl:ns.length<=1000000) :
  Calls Tryz.prog 161 #[.slice ao ns.length cap,.func (.func 112) #[] #[]] w (IdxPost ns w):=by
 have eg:∀ args w,(callFunc 112 args).run Tryz.prog w=.ok (.enter 112 args) w:=enters_of Tryz.func112 (by kernel_rfl) rfl;obtain⟨n,hn⟩:∃ n,ns.length=n:=⟨_,rfl⟩;have HN:=hid hn;have HL:=hid h;have HE:=hid he;have HS:=hid hs;rw[hn]at hl ⊢;clear h hn hs he;go_enter Tryz.func161,Tryz.ntmps161;repeat (first|go_skip|go_guarded|go_step|go_upon)
 go_loopw [8] (fun s8 wr=>∃ k:Nat,s8=.int .i64 k/\k<=n/\badE (ns.take k)=false/\Below w.heap.size w wr) (fun s8 _=>n-(RowKit.intOf s8).toNat)
 case atStart=>exact⟨0,rfl,Nat.zero_le _,rfl,Below.refl _ _⟩
 case round =>
  obtain⟨k,rfl,bC,b5,hb⟩:=hrel;have HB:=hid hb;have bx:=hid b5;have aJ:=hb.size;have aZ:=hid (HL.out.below hb);clear hb b5;by_cases hlt:k<n
  ·have aO:(k:Int)<n:=by omega
   obtain⟨g,o,rfl,hg,hc⟩:=aZ.out (by rw[HN.out];omega);obtain⟨x,hx⟩:∃ x,ns[k]?=some x:=⟨ns[k]'(by rw[HN.out];exact hlt),getElem?_eq_getElem _⟩;obtain⟨X,hX,_⟩:=txt_of x.path;obtain⟨a,ha⟩:=ptr_cases adr x.kind;obtain⟨c0,c1⟩:=hc k x hx;rw[hX]at c0;rw[ha]at c1;have cx:=dnoPath_any adr x wr (HE.out.below HB.out) (HS.out x (mem_of_getElem? hx));unfold enV at cx;rw[hX,ha]at cx
   cases hp:NP.pathL x.path with
   | true =>
    rw[hp]at cx;have CX:=hid cx;have bt:Hid (badE (ns.take (k+1))=false):=hid (bad_step hx bx.out hp);clear hc hx hX cx hlt ha hp;repeat (first|(go_at_fn 112;refine CX.out.mono ?_;rintro r w1 ⟨rfl,hb⟩;simp only[];have B1:=hid (Below.trans HB.out (hb.mono aJ));clear hb)|go_skip|go_guarded|go_step|go_upon)
    exact⟨⟨k+1,by go_num,by omega,bt.out,B1.out⟩,by simp[RowKit.intOf];omega⟩
   | false =>
    rw[hp]at cx;have CX:=hid cx;have bt:Hid (badE ns=true):=hid (bad_here hx hp);clear hc hx hX cx hlt ha hp;repeat (first|(go_at_fn 112;refine CX.out.mono ?_;rintro r w1 ⟨rfl,hb⟩;simp only[];have B1:=hid (Below.trans HB.out (hb.mono aJ));clear hb)|go_skip|go_guarded|go_step|go_upon)
    go_ret;exact⟨(k:Int),rfl,by rw[bt.out];exact decide_eq_true (by omega),B1.out⟩
  ·have aO:¬(k:Int)<n:=by omega
   have HF:Hid (badE ns=false):=hid (by
    have:=bx.out;rw[take_of_length_le (by rw[HN.out];omega)]at this
    exact this)
   clear hlt;repeat (first|go_skip|go_guarded|go_step|go_upon)
   go_ret;exact⟨-1,rfl,by rw[HF.out];rfl,HB.out⟩
theorem dcontains_any(adr:Int->Nat)(ao:Option Addr)(cap:Nat)(ns:List Nd)(w:World)(he:NF.Env w)(h:LayE w adr ao ns)(hs:SmallE ns)(hl:ns.length<=1000000) :
  Calls Tryz.prog 111 #[.slice ao ns.length cap,.func (.func 112) #[] #[]] w fun r w'=>r=.returned (.bool (badE ns))/\Below w.heap.size w w':=by
 have CB:=hid (dindex_any adr ao cap ns w he h hs hl);obtain⟨n,hn⟩:∃ n,ns.length=n:=⟨_,rfl⟩;obtain⟨b,ct⟩:∃ b,badE ns=b:=⟨_,rfl⟩;have cj:=hid ct;rw[hn]at CB ⊢;rw[ct];clear h hs hl hn he ct;go_enter Tryz.func111,Tryz.ntmps111;repeat (first|go_skip|go_guarded|go_step|go_upon)
 refine CB.out.mono ?_;rintro r w1 ⟨z,rfl,hz,hb⟩;simp only[];have B1:=hid hb;rw[cj.out]at hz;clear hb;repeat (first|go_skip|go_guarded|go_step|go_upon)
 go_ret;exact⟨by first|rfl|(rw[<- hz];rfl),B1.out⟩
end DG
end
section
open Go.RowKit Go.Lib Go.BigFrame
namespace DG
open OM TP TM DP DM TG TR
theorem infoE:(Tryz.prog.info? 125).map (fun i=>(i.zero,i.size,i.bytes))=some (some (.agg #[.string ⟨#[]⟩,.pointer none]),2,24):=by kernel_rfl
def EnPost(adr:Int->Nat)(l:List Nd)(w:World)(r:Ending)(w':World):Prop :=
 ∃ v,r=.returned v/\w'.ownsRow w.heap.size 125 2 v l.length (ensC adr l)/\Below w.heap.size w w'
theorem two_new(W:World)(g:Nat)(hg:g=W.heap.size)(adr:Int->Nat)(e:Nd)(a b:Value)(ha:txt e.path=a)(hb:ptrV adr e.kind=b)(t:TypeId) :
  ∀(j:Nat) (u:Value),(enCells adr e)[j]?=some u->(W.alloc (.cells #[a,b] t)).cell? ((⟨g,0,none⟩:Addr).add j)=some u:=by
 subst hg ha hb;obtain⟨c0,c1,_⟩:=row2 (heap_alloc_new W (.cells #[txt e.path,ptrV adr e.kind] t));intro j u hu;have e1:(⟨W.heap.size,0,none⟩:Addr).add j=⟨W.heap.size,j,none⟩:=by simp[Addr.add];omega
 rw[e1]
 match j with
 | 0=>exact c0.trans hu
 | 1=>exact c1.trans hu
 | j+2=>cases hu
theorem en_one(adr:Int->Nat)(e:Nd):∀ u∈enCells adr e,u.oneCell'=true:=by
 intro u hu;have:=ens_one adr [e] u (by simpa[ensC] using hu);exact this
theorem layE_cells{W:World}{adr:Int->Nat}{ad:Addr}{ts:List Nd}(h:LayE W adr (some ad) ts):∀(j:Nat) (u:Value),(ensC adr ts)[j]?=some u->W.cell? (ad.add j)=some u:=by
 intro j u hu;have hj:=(List.getElem?_eq_some_iff.1 hu).1;rw[ens_len]at hj;obtain⟨g,o,e,_,hc⟩:=h (by omega);cases e;obtain⟨x,hx⟩:∃ x,ts[j / 2]?=some x:=⟨_,getElem?_eq_getElem (show j / 2<ts.length by omega)⟩;obtain⟨y0,y1⟩:=hc _ x hx;obtain⟨z0,z1⟩:=ens_at adr ts _ x hx;have e:(⟨g,o,none⟩:Addr).add j=⟨g,o+j,none⟩:=by simp[Addr.add]
 rw[e];rcases (by omega:j=j / 2*2\/j=j / 2*2+1)with hr|hr
 ·rw[hr]at hu ⊢;rw[z0]at hu;rw[<- hu];exact y0
 ·rw[hr]at hu ⊢;rw[z1]at hu;rw[<- hu];exact y1
def treeK(I:List Ino)(ns:List Nd)(k:Nat):List Nd:=(ns.take k).map (nodeOf I)
theorem treeK_succ{I:List Ino}{ns:List Nd}{k:Nat}{x:Nd}(hx:ns[k]?=some x):treeK I ns (k+1)=treeK I ns k++[nodeOf I x]:=by
 unfold treeK;rw[take_add_one,hx,Option.toList_some,List.map_append];rfl
theorem treeK_len(I:List Ino)(ns:List Nd)(k:Nat):(treeK I ns k).length<=k:=by unfold treeK;rw[List.length_map,length_take];omega
theorem dtree_any(adr:Int->Nat)(ao:Option Addr)(cap:Nat)(ns:List Nd)(I:List Ino)(w:World)(h:LayE w adr ao ns)(hi:LayI w adr ns I){m:Nat}(hr:Row m ns) :
  Calls Tryz.prog 67 #[.slice ao ns.length cap] w (TR.AtPost (ns.map (nodeOf I)) w):=by
 obtain⟨i0,aR,ax,al,ar⟩:=info_parts infoN;have HL:=hid h;have HI:=hid hi;have HR:=hid hr;have hl:=hr.len;obtain⟨n,hn⟩:∃ n,ns.length=n:=⟨_,rfl⟩;have HN:=hid hn;rw[hn]at hl ⊢;clear h hi hr hn;go_enter Tryz.func67,Tryz.ntmps67;repeat (first|go_skip|go_guarded|go_step|go_upon)
 go_loopw [3,8] (fun s3 s8 wr=>∃ k:Nat,s8=.int .i64 k/\k<=n/\wr.ownsRow w.heap.size 45 4 s3 (treeK I ns k).length (nodesC (treeK I ns k))/\Below w.heap.size w wr) (fun _ s8 _=>n-(RowKit.intOf s8).toNat)
 case atStart=>exact⟨0,rfl,Nat.zero_le _,World.ownsRow_nil _ _ _ _,Below.refl _ _⟩
 case round =>
  obtain⟨k,rfl,hk,ho,hb⟩:=hrel;have HO:=hid ho;have HB:=hid hb;have aJ:=hb.size;have bw:=hid (treeK_len I ns k);have aZ:=hid (HL.out.below hb);have dl:=hid (HI.out.below hb);clear ho hb;by_cases hlt:k<n
  ·have bi:(k:Int)<n:=by omega
   obtain⟨g,o,rfl,hg,hc⟩:=aZ.out (by rw[HN.out];omega);obtain⟨x,hx⟩:∃ x,ns[k]?=some x:=⟨ns[k]'(by rw[HN.out];exact hlt),getElem?_eq_getElem _⟩;have aw:=mem_of_getElem? hx;obtain⟨k0,cI,dc,_⟩:=HR.out.ino x aw
   have a5:x.kind≠0:=by
    rw[cI];show((k0:Int))≠0;omega
   obtain⟨X,hX,_⟩:=txt_of x.path;obtain⟨c0,c1⟩:=hc k x hx;have aK:=dl.out x aw a5;rw[hX]at c0;rw[ptr_pos adr a5]at c1;obtain⟨y,hy⟩:∃ y,nodeOf I x=y:=⟨_,rfl⟩;have bJ:y.path=x.path:=by rw[<- hy];rfl
   obtain⟨D,hD,_⟩:=txt_of y.data;have HK:=hid (treeK_succ (I:=I) hx);rw[hy]at HK;obtain⟨ga,bn⟩:∃ ga,adr x.kind=ga:=⟨_,rfl⟩;rw[bn]at c1 aK;have B0:Hid (Below w.heap.size w (wr.alloc (.cells #[.string X,.pointer (some ⟨ga,0,none⟩)] 125))):=hid (HB.out.alloc aJ _);have BR:Hid (Below wr.heap.size wr (wr.alloc (.cells #[.string X,.pointer (some ⟨ga,0,none⟩)] 125))):=hid ((Below.refl _ _).alloc (Nat.le_refl _) _)
   have CN:Hid (∀ W,Below wr.heap.size wr W->Calls Tryz.prog 127 #[.pointer (some ⟨ga,0,none⟩),.string X] W fun r w'=>r=.returned (.agg #[.string X,.int .i64 y.kind,.string D,.int .i64 y.mode])/\Below W.heap.size W w'):=hid (fun W hW=>by
    have:=node_any ga x.kind _ x.path W (inoAt_below aK hW);rw[<- hX,← bJ,← hD];rw[<- bJ]at this;rw[<- hy]at this ⊢
    exact this)
   have dF:Hid (txt y.path=.string X):=hid (by rw[bJ,hX]);have dw:=hid hD;obtain⟨ky,c6⟩:∃ z,y.kind=z:=⟨_,rfl⟩;obtain⟨my,c5⟩:∃ z,y.mode=z:=⟨_,rfl⟩
   have aG:Hid (∀(W:World) (j:Nat) (u:Value),(ndCells y)[j]?=some u->(W.alloc (.cells #[.string X,.int .i64 ky,.string D,.int .i64 my] 45)).cell? ((⟨W.heap.size,0,none⟩:Addr).add j)=some u):=hid (fun W=>by
    have:=four_new W _ rfl y _ _ dF.out dw.out 45;rw[c6,c5]at this
    exact this)
   rw[c6,c5]at CN;clear hc hx aw cI dc a5 hX aK bJ hD hlt bn hy c6 c5
   repeat (first
    | (go_at_call 127;refine(CN.out _ BR.out).mono ?_;rintro r w3 ⟨rfl,cz⟩;simp only[];have B3:=hid (Below.trans B0.out (cz.mono B0.out.size));have cN:=hid (owns_below (HO.out.alloc _) cz);have dg:=B3.out.size;clear cz)
    | (at_builtin;refine wpList_append_own _ rfl _ _ 22 rfl w.heap.size 45 i0 (ndVal zeroN) 4 48 Tryz.underlying22 aR ax al ar rfl (by decide) _ _ _ rfl (cN.out.alloc _) ⟨w3.heap.size,0,none⟩ 1 1 (ndCells y) rfl rfl (aG.out w3) (nd_one _) (by have:=bw.out;unfold maxLen;omega) (by have:=bw.out;omega) (by simp;omega) ?_;intro v' w5 ab aa ai;have aI:=hid ab;have aH:=hid ((B3.out.alloc dg _).grown aa (by simp;omega) (fun j hj=>(cN.out.lt j hj).1));clear ab aa ai)
    | go_skip|go_guarded|go_step|go_upon)
   refine⟨⟨k+1,by go_num,by omega,?_,aH.out⟩,by simp[RowKit.intOf];omega⟩;rw[HK.out,length_append,List.length_singleton,nodes_snoc];exact aI.out
  ·have bi:¬(k:Int)<n:=by omega
   have HK:Hid (ns.map (nodeOf I)=treeK I ns k):=hid (by unfold treeK;rw[take_of_length_le (by rw[HN.out];omega)]);clear hlt;repeat (first|go_skip|go_guarded|go_step|go_upon)
   go_ret;exact⟨_,rfl,by rw[HK.out];exact HO.out,HB.out⟩
def outK(B:List Nd)(k:Nat):List Nd:=(B.take k).map fun e=>en e.path 0
theorem outK_succ{B:List Nd}{k:Nat}{x:Nd}(hx:B[k]?=some x):outK B (k+1)=outK B k++[en x.path 0]:=by
 unfold outK;rw[take_add_one,hx,Option.toList_some,List.map_append];rfl
theorem outK_len(B:List Nd)(k:Nat):(outK B k).length<=k:=by unfold outK;rw[List.length_map,length_take];omega
theorem without_any(adr:Int->Nat)(ao:Option Addr)(cap:Nat)(ns:List Nd)(p:List UInt8)(w:World)(he:NF.Env w)(h:LayE w adr ao ns){mm:Nat}(hr:Row mm ns)(az:ns.length<=cap)(hp:p.length<=maxLen) :
  Calls Tryz.prog 110 #[.slice ao ns.length cap,txt p] w (EnPost adr (outE ns p) w):=by
 obtain⟨i0,aR,ax,al,ar⟩:=info_parts infoE;have CW:=hid (dwithin_any adr ao cap ns p w he h hr az hp);have HL:=hid h;obtain⟨B,hB⟩:∃ B,inE ns p=B:=⟨_,rfl⟩;have dr:B.length<=1000:=by rw[<- hB];exact Nat.le_trans (List.length_filter_le _ _) hr.len
 have HF:Hid (outE ns p=outK B B.length):=hid (by unfold outE outK;rw[hB,take_length]);obtain⟨n,hn⟩:∃ n,ns.length=n:=⟨_,rfl⟩;obtain⟨S,hS,a4⟩:=txt_of p;rw[hn,hS]at CW ⊢;obtain⟨q,hq⟩:∃ q,B.length=q:=⟨_,rfl⟩;have bR:=hid hq;have cj:=hid hB;rw[hq]at dr HF;clear h hr az hp hn hS a4 he hB hq;go_enter Tryz.func110,Tryz.ntmps110;repeat (first|go_skip|go_guarded|go_step|go_upon)
 refine CW.out.mono ?_;rintro r w1 ⟨aN,c',rfl,av,bb⟩;rw[cj.out]at av ⊢;rw[bR.out];simp only[];have B1:=hid bb;have dj:=hid (av _ (HL.out.below bb));clear bb av;repeat (first|go_skip|go_guarded|go_step|go_upon)
 go_loopw [5,12] (fun s5 s12 wr=>∃ k:Nat,s12=.int .i64 k/\k<=q/\wr.ownsRow w1.heap.size 125 2 s5 (outK B k).length (ensC adr (outK B k))/\Below w.heap.size w wr/\Below w1.heap.size w1 wr) (fun _ s12 _=>q-(RowKit.intOf s12).toNat)
 case atStart=>exact⟨0,rfl,Nat.zero_le _,World.ownsRow_nil _ _ _ _,B1.out,Below.refl _ _⟩
 case round =>
  obtain⟨k,rfl,hk,ho,hb,bb⟩:=hrel;have HO:=hid ho;have HB:=hid hb;have dB:=hid bb;have aJ:=hb.size;have c9:=bb.size;have bw:=hid (outK_len B k);have aZ:=hid (dj.out.below bb);clear ho hb bb;by_cases hlt:k<q
  ·have bi:(k:Int)<q:=by omega
   obtain⟨g,o,rfl,hg,hc⟩:=aZ.out (by rw[bR.out];omega);obtain⟨x,hx⟩:∃ x,B[k]?=some x:=⟨B[k]'(by rw[bR.out];exact hlt),getElem?_eq_getElem _⟩;obtain⟨X,hX,_⟩:=txt_of x.path;obtain⟨a,ha⟩:=ptr_cases adr x.kind;obtain⟨c0,c1⟩:=hc k x hx;rw[hX]at c0;rw[ha]at c1;have HK:=hid (outK_succ hx);have aG:Hid (∀(W:World) (j:Nat) (u:Value),(enCells adr (en x.path 0))[j]?=some u->(W.alloc (.cells #[.string X,.pointer none] 125)).cell? ((⟨W.heap.size,0,none⟩:Addr).add j)=some u):=hid (fun W=>two_new W _ rfl adr (en x.path 0) _ _ hX rfl 125);clear hc hx hX ha hlt
   repeat (first
    | (at_builtin;refine wpList_append_own _ rfl _ _ 118 rfl w1.heap.size 125 i0 _ 2 24 Tryz.underlying118 aR ax al ar rfl (by decide) _ _ _ rfl ((HO.out.alloc _).alloc _) ⟨wr.heap.size+1,0,none⟩ 1 1 (enCells adr (en x.path 0)) rfl rfl (by have:=aG.out (wr.alloc (.cells #[.string X,.pointer a] 125));simpa using this) (en_one adr _) (by have:=bw.out;unfold maxLen;omega) (by have:=bw.out;omega) (by simp;omega) ?_;intro v' w5 ab aa ai;have aI:=hid ab;have aH:=hid (((HB.out.alloc aJ _).alloc (by simp;omega) _).grown aa (by simp;omega) (fun j hj=>Nat.le_trans B1.out.size (HO.out.lt j hj).1));have dC:=hid (((dB.out.alloc c9 _).alloc (by simp;omega) _).grown aa (by simp;omega) (fun j hj=>(HO.out.lt j hj).1));clear ab aa ai)
    | go_skip|go_guarded|go_step|go_upon)
   refine⟨⟨k+1,by go_num,by omega,?_,aH.out,dC.out⟩,by simp[RowKit.intOf];omega⟩;rw[HK.out,length_append,List.length_singleton,ens_snoc];exact aI.out
  ·have bi:¬(k:Int)<q:=by omega
   have HK:Hid (outE ns p=outK B k):=hid (by rw[HF.out];congr 1;omega);clear hlt;repeat (first|go_skip|go_guarded|go_step|go_upon)
   go_ret;exact⟨_,rfl,by rw[HK.out];exact owns_base HO.out _ B1.out.size,HB.out⟩
end DG
end
section
open Go.RowKit Go.Lib Go.BigFrame
namespace DG
open OM
def ClPost(T size n:Nat)(xs:List Value)(w:World)(r:Ending)(w':World):Prop :=
 ∃ v,r=.returned v/\w'.ownsRow w.heap.size T size v n xs/\Below w.heap.size w w'
theorem info_clE:(Tryz.prog.info? 125).map (fun i=>(i.zero,i.size,i.bytes))=some (some (.agg #[.string ⟨#[]⟩,.pointer none]),2,24):=by kernel_rfl
theorem clE_any(ao:Option Addr)(n cap:Nat)(xs:List Value)(w:World)(hx:∀ ad,ao=some ad->∀(j:Nat) (u:Value),xs[j]?=some u->w.cell? (ad.add j)=some u)(hlen:xs.length=n*2)
  (h1:∀ u∈xs,u.oneCell'=true) (aj:ao=none->n=0/\cap=0) (hb:n*24<=140737488355328) :
  Calls Tryz.prog 116 #[.slice ao n cap] w (ClPost 125 2 n xs w):=by
 obtain⟨i0,hi,ax,al,ar⟩:=info_parts info_clE
 cases ao with
 | none =>
  obtain⟨rfl,rfl⟩:=aj rfl;have h0:xs=[]:=List.eq_nil_of_length_eq_zero (by omega);subst h0;have q0:=fun W=>Lib.run_eql_slice_nil (P:=Tryz.prog) W 119 _ none 0 0 0 0 Tryz.underlying119;clear hx hlen h1 aj hb;go_enter Tryz.func116,Tryz.ntmps116;repeat (first|go_skip|go_guarded|go_step|go_upon)
  go_ret;exact⟨_,rfl,World.ownsRow_nil _ _ _ _,Below.refl _ _⟩
 | some ad =>
  have B0:Hid (Below w.heap.size w (w.alloc (.cells #[] 125))):=hid ((Below.refl _ _).alloc (Nat.le_refl _) _)
  have aG:Hid (∀(j:Nat) (u:Value),xs[j]?=some u->(w.alloc (.cells #[] 125)).cell? (ad.add j)=some u):=hid (fun j u hu=>by
   have:=hx ad rfl j u hu
   exact(B0.out.cell (World.block_lt_of_cell? _ _ this)).trans this)
  have aE:=hid hlen;have aV:=hid h1;have a7:Hid ((w.alloc (.cells #[] 125)).ownsRow w.heap.size 125 2 (.slice (some ⟨w.heap.size,0,none⟩) 0 0) 0 []):=hid (World.ownsRow_made w #[] 0 (Nat.le_refl _) (Nat.zero_le _) rfl);have q0:=fun W=>Lib.run_eql_slice_nil (P:=Tryz.prog) W 119 _ (some ad) n cap 0 0 Tryz.underlying119;clear hx aj hlen h1;go_enter Tryz.func116,Tryz.ntmps116
  repeat (first
   | (at_builtin;refine wpList_append_own _ rfl _ _ 119 rfl w.heap.size 125 i0 _ 2 24 Tryz.underlying119 hi ax al ar rfl (by decide) _ _ _ rfl a7.out ad n cap xs rfl aE.out aG.out aV.out (by unfold maxLen;omega) (by omega) (by simp) ?_;intro v' w5 ab aa ai;have aI:=hid ab;have aH:=hid (B0.out.grown aa (by simp) (fun j hj=>(a7.out.lt j hj).1));clear ab aa ai)
   | go_skip|go_guarded|go_step|go_upon)
  go_ret;refine⟨_,rfl,?_,aH.out⟩;have:=aI.out;rw[Nat.zero_add,nil_append]at this;exact this
theorem info_clD:(Tryz.prog.info? 75).map (fun i=>(i.zero,i.size,i.bytes))=some (some (.agg #[.string ⟨#[]⟩,.string ⟨#[]⟩,.string ⟨#[]⟩]),3,48):=by kernel_rfl
theorem clD_any(ao:Option Addr)(n cap:Nat)(xs:List Value)(w:World)(hx:∀ ad,ao=some ad->∀(j:Nat) (u:Value),xs[j]?=some u->w.cell? (ad.add j)=some u)(hlen:xs.length=n*3)
  (h1:∀ u∈xs,u.oneCell'=true) (aj:ao=none->n=0/\cap=0) (hb:n*48<=140737488355328) :
  Calls Tryz.prog 68 #[.slice ao n cap] w (ClPost 75 3 n xs w):=by
 obtain⟨i0,hi,ax,al,ar⟩:=info_parts info_clD
 cases ao with
 | none =>
  obtain⟨rfl,rfl⟩:=aj rfl;have h0:xs=[]:=List.eq_nil_of_length_eq_zero (by omega);subst h0;have q0:=fun W=>Lib.run_eql_slice_nil (P:=Tryz.prog) W 39 _ none 0 0 0 0 Tryz.underlying39;clear hx hlen h1 aj hb;go_enter Tryz.func68,Tryz.ntmps68;repeat (first|go_skip|go_guarded|go_step|go_upon)
  go_ret;exact⟨_,rfl,World.ownsRow_nil _ _ _ _,Below.refl _ _⟩
 | some ad =>
  have B0:Hid (Below w.heap.size w (w.alloc (.cells #[] 75))):=hid ((Below.refl _ _).alloc (Nat.le_refl _) _)
  have aG:Hid (∀(j:Nat) (u:Value),xs[j]?=some u->(w.alloc (.cells #[] 75)).cell? (ad.add j)=some u):=hid (fun j u hu=>by
   have:=hx ad rfl j u hu
   exact(B0.out.cell (World.block_lt_of_cell? _ _ this)).trans this)
  have aE:=hid hlen;have aV:=hid h1;have a7:Hid ((w.alloc (.cells #[] 75)).ownsRow w.heap.size 75 3 (.slice (some ⟨w.heap.size,0,none⟩) 0 0) 0 []):=hid (World.ownsRow_made w #[] 0 (Nat.le_refl _) (Nat.zero_le _) rfl);have q0:=fun W=>Lib.run_eql_slice_nil (P:=Tryz.prog) W 39 _ (some ad) n cap 0 0 Tryz.underlying39;clear hx aj hlen h1;go_enter Tryz.func68,Tryz.ntmps68
  repeat (first
   | (at_builtin;refine wpList_append_own _ rfl _ _ 39 rfl w.heap.size 75 i0 _ 3 48 Tryz.underlying39 hi ax al ar rfl (by decide) _ _ _ rfl a7.out ad n cap xs rfl aE.out aG.out aV.out (by unfold maxLen;omega) (by omega) (by simp) ?_;intro v' w5 ab aa ai;have aI:=hid ab;have aH:=hid (B0.out.grown aa (by simp) (fun j hj=>(a7.out.lt j hj).1));clear ab aa ai)
   | go_skip|go_guarded|go_step|go_upon)
  go_ret;refine⟨_,rfl,?_,aH.out⟩;have:=aI.out;rw[Nat.zero_add,nil_append]at this;exact this
theorem info_clF:(Tryz.prog.info? 116).map (fun i=>(i.zero,i.size,i.bytes))=some (some (.agg #[.int .i64 0,.int .i64 0,.int .i64 0,.int .i64 0]),4,32):=by kernel_rfl
theorem clF_any(ao:Option Addr)(n cap:Nat)(xs:List Value)(w:World)(hx:∀ ad,ao=some ad->∀(j:Nat) (u:Value),xs[j]?=some u->w.cell? (ad.add j)=some u)(hlen:xs.length=n*4)
  (h1:∀ u∈xs,u.oneCell'=true) (aj:ao=none->n=0/\cap=0) (hb:n*32<=140737488355328) :
  Calls Tryz.prog 69 #[.slice ao n cap] w (ClPost 116 4 n xs w):=by
 obtain⟨i0,hi,ax,al,ar⟩:=info_parts info_clF
 cases ao with
 | none =>
  obtain⟨rfl,rfl⟩:=aj rfl;have h0:xs=[]:=List.eq_nil_of_length_eq_zero (by omega);subst h0;have q0:=fun W=>Lib.run_eql_slice_nil (P:=Tryz.prog) W 23 _ none 0 0 0 0 Tryz.underlying23;clear hx hlen h1 aj hb;go_enter Tryz.func69,Tryz.ntmps69;repeat (first|go_skip|go_guarded|go_step|go_upon)
  go_ret;exact⟨_,rfl,World.ownsRow_nil _ _ _ _,Below.refl _ _⟩
 | some ad =>
  have B0:Hid (Below w.heap.size w (w.alloc (.cells #[] 116))):=hid ((Below.refl _ _).alloc (Nat.le_refl _) _)
  have aG:Hid (∀(j:Nat) (u:Value),xs[j]?=some u->(w.alloc (.cells #[] 116)).cell? (ad.add j)=some u):=hid (fun j u hu=>by
   have:=hx ad rfl j u hu
   exact(B0.out.cell (World.block_lt_of_cell? _ _ this)).trans this)
  have aE:=hid hlen;have aV:=hid h1;have a7:Hid ((w.alloc (.cells #[] 116)).ownsRow w.heap.size 116 4 (.slice (some ⟨w.heap.size,0,none⟩) 0 0) 0 []):=hid (World.ownsRow_made w #[] 0 (Nat.le_refl _) (Nat.zero_le _) rfl);have q0:=fun W=>Lib.run_eql_slice_nil (P:=Tryz.prog) W 23 _ (some ad) n cap 0 0 Tryz.underlying23;clear hx aj hlen h1;go_enter Tryz.func69,Tryz.ntmps69
  repeat (first
   | (at_builtin;refine wpList_append_own _ rfl _ _ 23 rfl w.heap.size 116 i0 _ 4 32 Tryz.underlying23 hi ax al ar rfl (by decide) _ _ _ rfl a7.out ad n cap xs rfl aE.out aG.out aV.out (by unfold maxLen;omega) (by omega) (by simp) ?_;intro v' w5 ab aa ai;have aI:=hid ab;have aH:=hid (B0.out.grown aa (by simp) (fun j hj=>(a7.out.lt j hj).1));clear ab aa ai)
   | go_skip|go_guarded|go_step|go_upon)
  go_ret;refine⟨_,rfl,?_,aH.out⟩;have:=aI.out;rw[Nat.zero_add,nil_append]at this;exact this
theorem info_clU:(Tryz.prog.info? 86).map (fun i=>(i.zero,i.size,i.bytes))=some (some (.agg #[.int .i64 0,.string ⟨#[]⟩,.slice none 0 0]),3,48):=by kernel_rfl
theorem clU_any(ao:Option Addr)(n cap:Nat)(xs:List Value)(w:World)(hx:∀ ad,ao=some ad->∀(j:Nat) (u:Value),xs[j]?=some u->w.cell? (ad.add j)=some u)(hlen:xs.length=n*3)
  (h1:∀ u∈xs,u.oneCell'=true) (aj:ao=none->n=0/\cap=0) (hb:n*48<=140737488355328) :
  Calls Tryz.prog 70 #[.slice ao n cap] w (ClPost 86 3 n xs w):=by
 obtain⟨i0,hi,ax,al,ar⟩:=info_parts info_clU
 cases ao with
 | none =>
  obtain⟨rfl,rfl⟩:=aj rfl;have h0:xs=[]:=List.eq_nil_of_length_eq_zero (by omega);subst h0;have q0:=fun W=>Lib.run_eql_slice_nil (P:=Tryz.prog) W 24 _ none 0 0 0 0 Tryz.underlying24;clear hx hlen h1 aj hb;go_enter Tryz.func70,Tryz.ntmps70;repeat (first|go_skip|go_guarded|go_step|go_upon)
  go_ret;exact⟨_,rfl,World.ownsRow_nil _ _ _ _,Below.refl _ _⟩
 | some ad =>
  have B0:Hid (Below w.heap.size w (w.alloc (.cells #[] 86))):=hid ((Below.refl _ _).alloc (Nat.le_refl _) _)
  have aG:Hid (∀(j:Nat) (u:Value),xs[j]?=some u->(w.alloc (.cells #[] 86)).cell? (ad.add j)=some u):=hid (fun j u hu=>by
   have:=hx ad rfl j u hu
   exact(B0.out.cell (World.block_lt_of_cell? _ _ this)).trans this)
  have aE:=hid hlen;have aV:=hid h1;have a7:Hid ((w.alloc (.cells #[] 86)).ownsRow w.heap.size 86 3 (.slice (some ⟨w.heap.size,0,none⟩) 0 0) 0 []):=hid (World.ownsRow_made w #[] 0 (Nat.le_refl _) (Nat.zero_le _) rfl);have q0:=fun W=>Lib.run_eql_slice_nil (P:=Tryz.prog) W 24 _ (some ad) n cap 0 0 Tryz.underlying24;clear hx aj hlen h1;go_enter Tryz.func70,Tryz.ntmps70
  repeat (first
   | (at_builtin;refine wpList_append_own _ rfl _ _ 24 rfl w.heap.size 86 i0 _ 3 48 Tryz.underlying24 hi ax al ar rfl (by decide) _ _ _ rfl a7.out ad n cap xs rfl aE.out aG.out aV.out (by unfold maxLen;omega) (by omega) (by simp) ?_;intro v' w5 ab aa ai;have aI:=hid ab;have aH:=hid (B0.out.grown aa (by simp) (fun j hj=>(a7.out.lt j hj).1));clear ab aa ai)
   | go_skip|go_guarded|go_step|go_upon)
  go_ret;refine⟨_,rfl,?_,aH.out⟩;have:=aI.out;rw[Nat.zero_add,nil_append]at this;exact this
theorem info_clN:(Tryz.prog.info? 45).map (fun i=>(i.zero,i.size,i.bytes))=some (some (.agg #[.string ⟨#[]⟩,.int .i64 0,.string ⟨#[]⟩,.int .i64 0]),4,48):=by kernel_rfl
theorem clN_any(ao:Option Addr)(n cap:Nat)(xs:List Value)(w:World)(hx:∀ ad,ao=some ad->∀(j:Nat) (u:Value),xs[j]?=some u->w.cell? (ad.add j)=some u)(hlen:xs.length=n*4)
  (h1:∀ u∈xs,u.oneCell'=true) (aj:ao=none->n=0/\cap=0) (hb:n*48<=140737488355328) :
  Calls Tryz.prog 71 #[.slice ao n cap] w (ClPost 45 4 n xs w):=by
 obtain⟨i0,hi,ax,al,ar⟩:=info_parts info_clN
 cases ao with
 | none =>
  obtain⟨rfl,rfl⟩:=aj rfl;have h0:xs=[]:=List.eq_nil_of_length_eq_zero (by omega);subst h0;have q0:=fun W=>Lib.run_eql_slice_nil (P:=Tryz.prog) W 22 _ none 0 0 0 0 Tryz.underlying22;clear hx hlen h1 aj hb;go_enter Tryz.func71,Tryz.ntmps71;repeat (first|go_skip|go_guarded|go_step|go_upon)
  go_ret;exact⟨_,rfl,World.ownsRow_nil _ _ _ _,Below.refl _ _⟩
 | some ad =>
  have B0:Hid (Below w.heap.size w (w.alloc (.cells #[] 45))):=hid ((Below.refl _ _).alloc (Nat.le_refl _) _)
  have aG:Hid (∀(j:Nat) (u:Value),xs[j]?=some u->(w.alloc (.cells #[] 45)).cell? (ad.add j)=some u):=hid (fun j u hu=>by
   have:=hx ad rfl j u hu
   exact(B0.out.cell (World.block_lt_of_cell? _ _ this)).trans this)
  have aE:=hid hlen;have aV:=hid h1;have a7:Hid ((w.alloc (.cells #[] 45)).ownsRow w.heap.size 45 4 (.slice (some ⟨w.heap.size,0,none⟩) 0 0) 0 []):=hid (World.ownsRow_made w #[] 0 (Nat.le_refl _) (Nat.zero_le _) rfl);have q0:=fun W=>Lib.run_eql_slice_nil (P:=Tryz.prog) W 22 _ (some ad) n cap 0 0 Tryz.underlying22;clear hx aj hlen h1;go_enter Tryz.func71,Tryz.ntmps71
  repeat (first
   | (at_builtin;refine wpList_append_own _ rfl _ _ 22 rfl w.heap.size 45 i0 _ 4 48 Tryz.underlying22 hi ax al ar rfl (by decide) _ _ _ rfl a7.out ad n cap xs rfl aE.out aG.out aV.out (by unfold maxLen;omega) (by omega) (by simp) ?_;intro v' w5 ab aa ai;have aI:=hid ab;have aH:=hid (B0.out.grown aa (by simp) (fun j hj=>(a7.out.lt j hj).1));clear ab aa ai)
   | go_skip|go_guarded|go_step|go_upon)
  go_ret;refine⟨_,rfl,?_,aH.out⟩;have:=aI.out;rw[Nat.zero_add,nil_append]at this;exact this
end DG
end
section
open Go.RowKit Go.Lib Go.BigFrame
namespace DG
open OM TP TM DP DM TG TR FP
abbrev Turn(g:Nat)(w w':World):Prop:=Out (fun k=>k=g) w w'
theorem wpList_clear_run{P:Program}{w:World}{ops:Array Oper}{rest:List Oper}{o:Oper}{a:Act}{Q:Exit->Act->World->Prop}(hgd:o.guard=none)(x:Operand)(t:TypeId)
  (ho:o.op=.call { callee:=.builtin .clear,args:=#[x],argTypes:=#[t] }) (v:Value) (hx:a.eval x=v) {w':World}
  (hr:(Builtin.clear_ #[t] o.type #[v]).run P w=.ok (.tuple #[]) w') (h:wpList P ops Q rest (a.put o.dst (.tuple #[])) w'):wpList P ops Q (o::rest) a w :=
 wpList_plain hgd fun _ hK=>by
  unfold Oper.wp execOp;simp only[ho,resolve,invoke,builtin,Sem.run_bind,Sem.run_pure,Result.andThen_ok,map_toArray,map_cons,map_nil,hx,hr];exact hK _ _ h
theorem wpList_append_eq{P:Program}{w:World}{ops:Array Oper}{rest:List Oper}{o:Oper}{a:Act}{Q:Exit->Act->World->Prop}(hgd:o.guard=none)(s x:Operand)(t t2:TypeId)
  (ho:o.op=.call { callee:=.builtin .append,args:=#[s,x],argTypes:=#[t,t2] }) (u v:Value) (hs:a.eval s=u) (hx:a.eval x=v) {v':Value} {w':World}
  (hr:(Builtin.append_ #[t,t2] o.type #[u,v]).run P w=.ok v' w') (h:wpList P ops Q rest (a.put o.dst v') w'):wpList P ops Q (o::rest) a w :=
 wpList_plain hgd fun _ hK=>by
  unfold Oper.wp execOp;simp only[ho,resolve,invoke,builtin,Sem.run_bind,Sem.run_pure,Result.andThen_ok,map_toArray,map_cons,map_nil,hs,hx,hr];exact hK _ _ h
theorem run_clear_one(w:World)(t ty:TypeId)(ht:Tryz.prog.underlying t=some (.slice 125))(g o c:Nat)(ac:Array Value)(hg:w.heap[g]?=some (.cells ac 125 (0,0)))(hfit:o+2<=ac.size) :
  (Builtin.clear_ #[t] ty #[.slice (some ⟨g,o,none⟩) 1 c]).run Tryz.prog w=.ok (.tuple #[]) (w.setRow g (ac.toList.take o++[(Value.string ⟨#[]⟩:Value),Value.pointer none]++ac.toList.drop (o+2)).toArray):=by
 obtain⟨i0,hi,ax,al,ar⟩:=info_parts infoE;have bH:=run_storeCells_at Tryz.prog g o 125 [Value.string ⟨#[]⟩,Value.pointer none] 0 ac w hg (by simpa using hfit) (by intro v hv;simp at hv;rcases hv with rfl|rfl<;>rfl);have dA:(Builtin.zeroCells (Value.agg #[.string ⟨#[]⟩,.pointer none]).cells 1).toList=[Value.string ⟨#[]⟩,Value.pointer none]:=by kernel_rfl
 simp[Builtin.clear_,run_underlying ht,zeroValue,typeInfo,hi,ax,dA,bH]
theorem setRow_turn{g:Nat}{w0 w:World}(h:Turn g w0 w)(cs:Array Value):Turn g w0 (w.setRow g cs) :=
 h.then (T:=fun k=>k=g) ⟨rfl,rfl,rfl,by simp,fun k _ hk=>setRow_other w g k cs hk⟩ (fun j _ hj=>hj)
theorem turn_below{g:Nat}{w w':World}(h:Below w.heap.size w w'):Turn g w w':=⟨h.os,h.tape,h.output,h.size,fun k hk _=>h.block k hk⟩
theorem esl_three{T:TypeId}(hT:EnSl T)(ao:Option Addr)(n i j m cap:Nat)(cP:i<=j)(hjm:j<=m)(hm:m<=cap) :
  ∃ v,∀ W:World,(Instr.slice T (.slice ao n cap) (some (.int .i64 (i:Nat))) (some (.int .i64 (j:Nat))) (some (.int .i64 (m:Nat)))).run Tryz.prog W=.ok v W:=by
 refine⟨sliced ao i j m 2,fun W=>?_⟩;rw[run_slice_lhm W T ao n cap hT.under .i64 .i64 .i64 i j m (by omega) (by omega) (by omega) (by omega),hT.size];rfl
theorem esl_to{T:TypeId}(hT:EnSl T)(ao:Option Addr)(n k cap:Nat)(h:k<=cap)(W:World) :
  (Instr.slice T (.slice ao n cap) none (some (.int .i64 (k:Nat))) none).run Tryz.prog W=.ok (.slice ao k cap) W:=by
 rw[run_slice_h W T ao n cap hT.under .i64 k (by omega) (by omega),hT.size];simp only[Result.andThen,sliced,Int.toNat_natCast,Nat.sub_zero,Nat.zero_mul];congr 2;split
 ·rfl
 ·cases ao with
  | none=>rfl
  | some a=>simp[add_zero_addr]
theorem esl_from{T:TypeId}(hT:EnSl T)(adr:Int->Nat)(g:Nat)(ns:List Nd)(n j cap:Nat)(hn:ns.length=n)(hj:j<=n)(hc:n<=cap) :
  ∃(ad:Addr) (c':Nat),(∀ W,(Instr.slice T (.slice (some ⟨g,0,none⟩) n cap) (some (.int .i64 (j:Nat))) none none).run Tryz.prog W=.ok (.slice (some ad) (n-j) c') W) /\
   (∀ W:World,(∀(k:Nat) (u:Value),(ensC adr ns)[k]?=some u->W.cell? ((⟨g,0,none⟩:Addr).add k)=some u)->∀(k:Nat) (u:Value),(ensC adr (ns.drop j))[k]?=some u->W.cell? (ad.add k)=some u):=by
 refine⟨if cap=j then⟨g,0,none⟩else(⟨g,0,none⟩:Addr).add (j*2),cap-j,fun W=>?_,fun W h k u hu=>?_⟩
 ·rw[run_slice_l W T _ n cap hT.under .i64 j (by omega) (by omega),hT.size];simp only[Result.andThen,sliced,Int.toNat_natCast];congr 2;split<;>rfl
 ·rw[ens_drop,getElem?_drop]at hu;have hk:=(List.getElem?_eq_some_iff.1 hu).1;rw[ens_len,hn]at hk;rw[if_neg (by omega)];have:=h _ u hu;rw[show((⟨g,0,none⟩:Addr).add (j*2)).add k=(⟨g,0,none⟩:Addr).add (j*2+k) by rw[Addr.add_lit,Addr.add_lit,Addr.add_lit,Nat.add_assoc]];exact this
theorem del_len(ns:List Nd){i:Nat}(h:i<ns.length):(ns.take i++ns.drop (i+1)).length=ns.length-1:=by
 rw[length_append,length_take,length_drop];omega
theorem delete_any(adr:Int->Nat)(g cap n i:Nat)(ac:Array Value)(ns:List Nd)(w:World)(hn:ns.length=n)(hi:i<n)(hl:n<=1001)(hg:w.heap[g]?=some (.cells ac 125 (0,0)))(aQ:n<=cap)(be:cap<=maxLen)(aF:ac.size=cap*2)(a3:ac.toList.take (n*2)=ensC adr ns) :
  Calls Tryz.prog 172 #[.slice (some ⟨g,0,none⟩) n cap,.int .i64 (i:Nat),.int .i64 (i+1:Nat)] w fun r w' =>
   r=.returned (.slice (some ⟨g,0,none⟩) (n-1) cap)/\OwnE w' adr (.slice (some ⟨g,0,none⟩) (n-1) cap) (ns.take i++ns.drop (i+1))/\Turn g w w':=by
 obtain⟨i0,aR,ax,al,ar⟩:=info_parts infoE;obtain⟨j,hj⟩:∃ j,i+1=j:=⟨_,rfl⟩;obtain⟨q,hq⟩:∃ q,n-1=q:=⟨_,rfl⟩;obtain⟨e3,dM⟩:=esl_three ensl_names (some ⟨g,0,none⟩) n i j n cap (by omega) (by omega) aQ;have cD:∀ W,(Instr.slice 119 (.slice (some ⟨g,0,none⟩) n cap) none (some (.int .i64 (i:Nat))) none).run Tryz.prog W=.ok (.slice (some ⟨g,0,none⟩) i cap) W:=fun W=>esl_to ensl_names _ n i cap (by omega) W;obtain⟨ad,c',d7,av⟩:=esl_from ensl_names adr g ns n j cap hn (by omega) aQ
 have dK:∀ W,(Instr.slice 119 (.slice (some ⟨g,0,none⟩) q cap) (some (.int .i64 (q:Nat))) (some (.int .i64 (n:Nat))) none).run Tryz.prog W=.ok (.slice (some ⟨g,q*2,none⟩) 1 (cap-q)) W:=fun W=>by
  rw[run_slice_lh W 119 _ q cap ensl_names.under .i64 .i64 q n (by omega) (by omega) (by omega),ensl_names.size];simp only[Result.andThen,sliced,Int.toNat_natCast];rw[if_neg (by omega),show n-q=1 by omega,Option.map_some,Addr.add_lit,Nat.zero_add]
 have cP:((i:Int)==(j:Int))=false:=by simp;omega
 have bS:Hid (∀ W:World,Below w.heap.size w W->W.heap[g]?=some (.cells ac 125 (0,0))):=hid (fun W hW=>(hW.block g (Array.getElem?_eq_some_iff.1 hg).1).trans hg)
 have bv:Hid (∀ W:World,W.heap[g]?=some (.cells ac 125 (0,0))->∀(k:Nat) (u:Value),(ensC adr ns)[k]?=some u->W.cell? ((⟨g,0,none⟩:Addr).add k)=some u):=hid (fun W hW k u hu=>by
  rw[Addr.add_lit,Nat.zero_add,cell_of_row W g k ac _ _ hW];rw[<- a3,getElem?_take]at hu;split at hu
  ·simpa using hu
  ·cases hu)
 obtain⟨aT,a6⟩:∃ l,ensC adr (ns.drop j)=l:=⟨_,rfl⟩;have aE:Hid (aT.length=(n-j)*2):=hid (by rw[<- a6,ens_len,length_drop,hn]);obtain⟨ah,am⟩:∃ c:Array Value,(ac.toList.take (i*2)++aT++ac.toList.drop (i*2+aT.length)).toArray=c:=⟨_,rfl⟩
 have aP:Hid (ah.size=cap*2):=hid (by
  have:=aE.out;rw[<- am];simp only[size_toArray,length_append,length_take,length_drop,Array.length_toList]
  omega)
 have b7:Hid (∀ W:World,W.heap[g]?=some (.cells ac 125 (0,0))->∀ ty,(Builtin.append_ #[119,119] ty #[.slice (some ⟨g,0,none⟩) i cap,.slice (some ad) (n-j) c']).run Tryz.prog W=.ok (.slice (some ⟨g,0,none⟩) q cap) (W.setRow g ah)):=hid (fun W hW ty=>by
  have h:=run_append_room (P:=Tryz.prog) W 119 ty 125 i0 Tryz.underlying119 aR g i cap ac hW ad (n-j) c' aT (by rw[aE.out,al]) (by rw[<- a6];exact av W (bv.out W hW)) (by rw[<- a6];exact ens_one adr _) (by omega) (by have:=aE.out;rw[al];omega);rw[h,al,am];congr 2
  omega)
 have bP:Hid (∀ W:World,W.heap[g]?=some (.cells ah 125 (0,0))->∀ ty,(Builtin.clear_ #[119] ty #[.slice (some ⟨g,q*2,none⟩) 1 (cap-q)]).run Tryz.prog W=.ok (.tuple #[]) (W.setRow g (ah.toList.take (q*2)++[(Value.string ⟨#[]⟩:Value),Value.pointer none]++ah.toList.drop (q*2+2)).toArray)):=hid (fun W hW ty=>run_clear_one W 119 ty Tryz.underlying119 g (q*2) (cap-q) ah hW (by have:=aP.out;omega))
 have d6:Hid (ah.toList.take (q*2)=ensC adr (ns.take i++ns.drop j)):=hid (by
  have h1:=aE.out;have l1:(ac.toList.take (i*2)).length=i*2:=by rw[length_take,Array.length_toList];omega
  have h2:ac.toList.take (i*2)=ensC adr (ns.take i):=by
   rw[ens_take,← a3,take_take,Nat.min_eq_left (by omega)]
  rw[<- am];simp only
  rw[ens_app,a6,← h2,List.take_append_of_le_length (by rw[length_append,l1];omega),take_of_length_le (by rw[length_append,l1];omega)])
 have cr:Hid ((ns.take i++ns.drop j).length=q):=hid (by rw[<- hj,del_len ns (by omega)];omega);rw[hj,hq];have cH:q+1=n:=by omega
 have dH:n-j<=1001:=by omega
 obtain⟨nj,bz⟩:∃ k,n-j=k:=⟨_,rfl⟩;rw[bz]at d7 b7;have bL:=hid cH;clear hg a3 hn hj hq av a6 am cH bz;go_enter Tryz.func172,Tryz.ntmps172;repeat (first|go_skip|go_guarded|go_step|go_upon)
 with_reducible refine QT.region_tail 6 (by kernel_rfl) (by kernel_rfl) ?_
 simp only[take_succ_cons,take_zero,drop_succ_cons,drop_zero];repeat (go_big_quiet_step (fail))
 refine wpQuiet_nil ?_;intro _ hw';obtain⟨⟨dq,au⟩,ay⟩:=hw';subst ay;have W5:Hid (Below w.heap.size w (Go.Sort.grow (redrawn w dq) au)):=hid (below_regrown w dq au);generalize Go.Sort.grow (redrawn w dq) au=w5 at W5 ⊢;have r5:=bS.out w5 W5.out;have A5:=b7.out w5 r5;have R6:Hid ((w5.setRow g ah).heap[g]?=some (.cells ah 125 (0,0))):=hid (setRow_heap w5 g ac ah _ _ r5);have T6:Hid (Turn g w (w5.setRow g ah)):=hid (setRow_turn (turn_below W5.out) ah);clear r5
 repeat (first
  | (at_builtin;refine wpList_append_eq rfl _ _ _ _ rfl _ _ rfl rfl (A5 _) ?_;clear A5;generalize w5.setRow g ah=w6 at R6 T6 ⊢;have C6:=bP.out w6 R6.out)
  | ((with_reducible refine wpList_clear_run (o:=⟨none,_,_,_,_,_⟩) rfl (.tmp 31) _ rfl _ (by kernel_rfl) (C6 _) ?_);clear C6)
  | go_skip|go_guarded|go_step|go_upon)
 go_ret;refine⟨rfl,⟨by rw[ens_len],.inr ⟨g,cap,_,?_,Nat.zero_le _,setRow_heap w6 g ah _ _ _ R6.out,?_,be,?_,?_⟩⟩,setRow_turn T6.out _⟩
 ·rw[cr.out]
 ·rw[cr.out];have:=bL.out;omega
 ·have:=aP.out;simp only[size_toArray,length_append,length_take,length_drop,Array.length_toList,length_cons,List.length_nil];have:=bL.out;omega
 ·have h2:=aP.out;have h3:=bL.out;have l1:(ah.toList.take (q*2)).length=q*2:=by rw[length_take,Array.length_toList];omega
  rw[cr.out,← d6.out];simp only[append_assoc];rw[List.take_append_of_le_length (by omega),take_take,Nat.min_self]
end DG
end
section
open Go.RowKit Go.Lib Go.BigFrame
namespace DG
open OM TP TM DP DM TG TR FP
theorem append_types{P:Program}{t tx e e':TypeId}(ht:P.underlying t=some (.slice e))(hx:P.underlying tx=some (.slice e'))(ty:TypeId)(b:Option Addr)(n c:Nat)(x:Value)(w:World) :
  (Builtin.append_ #[t,tx] ty #[.slice b n c,x]).run P w=(Builtin.append_ #[t,t] ty #[.slice b n c,x]).run P w:=by
 simp[Builtin.append_,run_underlying ht,run_underlying hx]
theorem run_copy2{P:Program}(w:World)(dT sT ty elem:TypeId)(g o dLen dCap:Nat)(a:Addr)(sLen sCap:Nat)(ac:Array Value)(t:TypeId)(cs:List Value)
  (hu:P.underlying dT=some (.slice elem)) (hs:(P.info? elem).map (·.size)=some 2)
  (hg:w.heap[g]?=some (.cells ac t (0,0))) (m:Nat) (hm:Nat.min sLen dLen=m) (hn:cs.length=m*2)
  (hsrc:∀ j v,cs[j]?=some v->w.cell? (a.add j)=some v) (hfit:o+cs.length<=ac.size) (h1:∀ v∈cs,v.oneCell'=true) :
  (Builtin.copy_ #[dT,sT] ty #[.slice (some ⟨g,o,none⟩) dLen dCap,.slice (some a) sLen sCap]).run P w =
   .ok (goInt m) (w.setRow g (ac.toList.take o++cs++ac.toList.drop (o+cs.length)).toArray):=by
 have hl:=run_loadCells_list (P:=P) w a cs hsrc;have bH:=run_storeCells_at P g o t cs 0 ac w hg (by simpa using hfit) h1
 cases hq:P.info? elem with
 | none=>simp[hq]at hs
 | some i =>
  have hi:i.size=2:=by simpa[hq] using hs
  rw[hn]at hl;simp only[Nat.add_zero]at bH;simp[Builtin.copy_,run_underlying hu,Builtin.lenOf,Builtin.firstCells,sizeOf,typeInfo,hq,hi,hm,hl,bH]
theorem wpList_copy_eq{P:Program}{w:World}{ops:Array Oper}{rest:List Oper}{o:Oper}{a:Act}{Q:Exit->Act->World->Prop}(hgd:o.guard=none)(d s:Operand)(t t':TypeId)
  (ho:o.op=.call { callee:=.builtin .copy,args:=#[d,s],argTypes:=#[t,t'] }) (v u:Value) (hd:a.eval d=v) (hs:a.eval s=u) {v':Value} {w':World}
  (hr:(Builtin.copy_ #[t,t'] o.type #[v,u]).run P w=.ok v' w') (h:wpList P ops Q rest (a.put o.dst v') w'):wpList P ops Q (o::rest) a w :=
 wpList_plain hgd fun _ hK=>by
  unfold Oper.wp execOp;simp only[ho,resolve,invoke,builtin,Sem.run_bind,Sem.run_pure,Result.andThen_ok,map_toArray,map_cons,map_nil,hd,hs,hr];exact hK _ _ h
def RowPost(adr:Int->Nat)(l:List Nd)(v:Value)(w:World)(r:Ending)(w':World):Prop :=
 ∃ v',r=.returned v'/\OwnE w' adr v' l/\(∀ g,v'.ownBlock=some g->v.ownBlock=some g\/w.heap.size<=g)/\Out (fun k=>v.ownBlock=some k) w w'
theorem out_grown{v:Value}{w w':World}(h:w.grownBy w' v.ownBlock):Out (fun k=>v.ownBlock=some k) w w' :=
 ⟨h.os,h.tape,h.output,h.size,fun k hk hn=>h.block k hk (fun e=>hn e.symm)⟩
theorem esl_at{T:TypeId}(hT:EnSl T)(g n j cap:Nat)(hj:j<=n)(hc:j<cap)(W:World) :
  (Instr.slice T (.slice (some ⟨g,0,none⟩) n cap) (some (.int .i64 (j:Nat))) none none).run Tryz.prog W=.ok (.slice (some ⟨g,j*2,none⟩) (n-j) (cap-j)) W:=by
 rw[run_slice_l W T _ n cap hT.under .i64 j (by omega) (by omega),hT.size];simp only[Result.andThen,sliced,Int.toNat_natCast];rw[if_neg (by omega),Option.map_some,Addr.add_lit,Nat.zero_add]
theorem esl_some{T:TypeId}(hT:EnSl T)(ao:Option Addr)(n j cap:Nat)(hj:j<=n)(hc:n<=cap) :
  ∃ v,∀ W:World,(Instr.slice T (.slice ao n cap) (some (.int .i64 (j:Nat))) none none).run Tryz.prog W=.ok v W:=by
 refine⟨sliced ao j n cap 2,fun W=>?_⟩;rw[run_slice_l W T ao n cap hT.under .i64 j (by omega) (by omega),hT.size];rfl
theorem row_cells{W:World}{g:Nat}{ac:Array Value}{t:TypeId}{fr:Nat×Nat}(h:W.heap[g]?=some (.cells ac t fr))(o k:Nat)(v:Value)(hv:ac.toList[o+k]?=some v):W.cell? ((⟨g,o,none⟩:Addr).add k)=some v:=by
 rw[Addr.add_lit,cell_of_row W g (o+k) ac _ _ h];simpa using hv
theorem ins_end(adr:Int->Nat)(v:Value)(n vb vc:Nat)(ns:List Nd)(e:Nd)(w:World)(hn:ns.length=n)(hl:n<=1000)(hown:OwnE w adr v ns)(hv:w.heap[vb]?=some (.cells #[txt e.path,ptrV adr e.kind] 125 (0,0))) :
  ∃ ao cap,v=.slice ao n cap/\n<=cap/\Calls Tryz.prog 173 #[.slice ao n cap,.int .i64 (n:Nat),.slice (some ⟨vb,0,none⟩) 1 vc] w (RowPost adr (ns++[e]) v w):=by
 obtain⟨i0,aR,ax,al,ar⟩:=info_parts infoE;obtain⟨ao,cap,b3,_,az,_,_⟩:=layE_own hown;rw[hn]at b3 az;refine⟨ao,cap,b3,az,?_⟩;subst b3
 obtain⟨v',w',bm,ab,aY,_,b8⟩:=run_append_own_at (P:=Tryz.prog) w 0 119 119 125 i0 _ 2 24 Tryz.underlying119 aR ax al ar rfl (by decide) (.slice ao n cap) ns.length (ensC adr ns) hown ⟨vb,0,none⟩ 1 vc (enCells adr e) rfl
  (fun j u hu=>by
   refine row_cells hv 0 j u ?_;rw[Nat.zero_add]
   exact hu) (en_one adr e) (by unfold maxLen;omega) (by omega) (Nat.zero_le _)
 rw[<- append_types Tryz.underlying119 Tryz.underlying118]at bm;obtain⟨cv,dI⟩:=esl_some ensl_names ao n n cap (Nat.le_refl _) az
 have HP:Hid (RowPost adr (ns++[e]) (.slice ao n cap) w (.returned v') w'):=hid ⟨v',rfl,by
  have:(ns++[e]).length=ns.length+1:=by simp
  unfold OwnE;rw[this,ens_snoc]
  exact ab,fun g hg=>by
   rcases b8 with h|h
   ·exact .inl (h ▸ hg)
   ·rw[h]at hg;injection hg with hg
    exact .inr (by omega),out_grown aY⟩
 have dP:((n:Int)==(n:Int))=true:=by simp
 clear hown hv hn ab aY b8;go_enter Tryz.func173,Tryz.ntmps173
 repeat (first
  | (at_builtin;refine wpList_append_eq rfl _ _ _ _ rfl _ _ rfl rfl bm ?_;clear bm)
  | go_skip|go_guarded|go_step|go_upon)
 go_ret;exact HP.out
end DG
end
section
open Go.RowKit Go.Lib Go.BigFrame
namespace DG
open OM TP TM DP DM TG TR FP
theorem size_two:(Tryz.prog.info? 125).map (·.size)=some 2:=by kernel_rfl
theorem ins_len(ns:List Nd)(e:Nd){i:Nat}(h:i<=ns.length):(ns.take i++e::ns.drop i).length=ns.length+1:=by
 rw[length_append,length_take,length_cons,length_drop];omega
theorem ens_ins(adr:Int->Nat)(ns:List Nd)(e:Nd)(i:Nat):ensC adr (ns.take i++e::ns.drop i)=ensC adr (ns.take i)++(enCells adr e++ensC adr (ns.drop i)):=by
 rw[ens_app];rfl
def lay(L:List Value)(o:Nat)(cs:List Value):List Value:=L.take o++cs++L.drop (o+cs.length)
theorem lay_len(L:List Value)(o:Nat)(cs:List Value)(h:o+cs.length<=L.length):(lay L o cs).length=L.length:=by
 unfold lay;simp only[length_append,length_take,length_drop];omega
theorem lay_take(L:List Value)(o:Nat)(cs:List Value)(h:o+cs.length<=L.length):(lay L o cs).take (o+cs.length)=L.take o++cs:=by
 unfold lay;rw[List.take_append_of_le_length (by rw[length_append,length_take];omega),take_of_length_le (by rw[length_append,length_take];omega)]
theorem lay_pre(L:List Value)(o k:Nat)(cs:List Value)(h:o+cs.length<=L.length)(hk:k<=o):(lay L o cs).take k=L.take k:=by
 unfold lay;rw[append_assoc,List.take_append_of_le_length (by rw[length_take];omega),take_take,Nat.min_eq_left hk]
theorem lay_two(L:List Value)(o:Nat)(A B:List Value)(h:o+A.length+B.length<=L.length):(lay (lay L (o+A.length) B) o A).take (o+A.length+B.length)=L.take o++(A++B):=by
 have h1:(lay L (o+A.length) B).take (o+A.length+B.length)=L.take (o+A.length)++B:=lay_take _ _ _ h;have hl:=lay_len L (o+A.length) B h;generalize hM:lay L (o+A.length) B=M at h1 hl ⊢;have h2:M.take o=L.take o:=by rw[<- hM];exact lay_pre _ _ _ _ h (by omega)
 unfold lay
 have e:M.drop (o+A.length)=(M.take (o+A.length+B.length)).drop (o+A.length)++M.drop (o+A.length+B.length):=by
  conv=>lhs;rw[<- take_append_drop (o+A.length+B.length) M]
  rw[List.drop_append_of_le_length (by rw[length_take];omega)]
 rw[e,h1,h2,List.drop_append_of_le_length (by rw[length_take];omega),show(L.take (o+A.length)).drop (o+A.length)=[] from List.drop_eq_nil_of_le (by rw[length_take];omega)];rw[nil_append,← append_assoc,List.take_append_of_le_length (by simp only[length_append,length_take];omega),take_of_length_le (by simp only[length_append,length_take];omega),append_assoc]
theorem lay_two'(L:List Value)(o:Nat)(A B:List Value)(h:o+A.length+B.length<=L.length):(lay (lay L o A) (o+A.length) B).take (o+A.length+B.length)=L.take o++(A++B):=by
 rw[lay_take _ _ _ (by rw[lay_len _ _ _ (by omega)];exact h),lay_take _ _ _ (by omega),append_assoc]
theorem ins_grow(adr:Int->Nat)(g cap n i vb vc:Nat)(ac:Array Value)(ns:List Nd)(e:Nd)(w:World)(hn:ns.length=n)(hi:i<n)(hl:n<=1000)(hg:w.heap[g]?=some (.cells ac 125 (0,0)))(aQ:n<=cap)(hgr:cap<n+1)(aF:ac.size=cap*2)(a3:ac.toList.take (n*2)=ensC adr ns)
  (hv:w.heap[vb]?=some (.cells #[txt e.path,ptrV adr e.kind] 125 (0,0))) :
  Calls Tryz.prog 173 #[.slice (some ⟨g,0,none⟩) n cap,.int .i64 (i:Nat),.slice (some ⟨vb,0,none⟩) 1 vc] w (RowPost adr (ns.take i++e::ns.drop i) (.slice (some ⟨g,0,none⟩) n cap) w):=by
 obtain⟨i0,aR,ax,al,ar⟩:=info_parts infoE;obtain⟨j,hj⟩:∃ j,i+1=j:=⟨_,rfl⟩;obtain⟨m,hm⟩:∃ m,n+1=m:=⟨_,rfl⟩;obtain⟨k,hk⟩:∃ k,m-i=k:=⟨_,rfl⟩;have b0:(n:Int)+1=(m:Int):=by omega
 have bi:(m:Int)-(i:Int)=(k:Int):=by omega
 have dd:(i:Int)+1=(j:Int):=by omega
 have dh:(cap:Int)<(m:Int):=by omega
 have dp:IntKind.i64.wrap ((i:Int)+1)=(j:Int):=by rw[IntKind.wrap_i64];omega
 have bu:((i:Int)==(n:Int))=false:=by simp;omega
 have cR:∀ W:World,(Instr.slice 119 (.slice (some ⟨g,0,none⟩) n cap) (some (.int .i64 (i:Nat))) none none).run Tryz.prog W=.ok (.slice (some ⟨g,i*2,none⟩) (n-i) (cap-i)) W:=esl_at ensl_names g n i cap (by omega) (by omega);have cD:∀ W:World,(Instr.slice 119 (.slice (some ⟨g,0,none⟩) n cap) none (some (.int .i64 (i:Nat))) none).run Tryz.prog W=.ok (.slice (some ⟨g,0,none⟩) i cap) W:=fun W=>esl_to ensl_names _ n i cap (by omega) W;obtain⟨aA,holds⟩:∃ l,ensC adr (ns.take i)=l:=⟨_,rfl⟩;obtain⟨rest,ak⟩:∃ l,ensC adr (ns.drop i)=l:=⟨_,rfl⟩;have lo:aA.length=i*2:=by rw[<- holds,ens_len,length_take,hn];omega
 have lr:rest.length=(n-i)*2:=by rw[<- ak,ens_len,length_drop,hn]
 have b6:ac.toList.take (i*2)=aA:=by rw[<- holds,ens_take,← a3,take_take,Nat.min_eq_left (by omega)]
 have b9:∀(t:Nat) (u:Value),rest[t]?=some u->ac.toList[i*2+t]?=some u:=fun t u hu=>by
  rw[<- ak,ens_drop,← a3,getElem?_drop,getElem?_take]at hu;split at hu
  ·exact hu
  ·cases hu
 obtain⟨G,hG⟩:∃ G,w.heap.size=G:=⟨_,rfl⟩
 have bq:(Builtin.firstCells i0.size i (.slice (some ⟨g,0,none⟩) i cap)).run Tryz.prog w.drew=.ok aA.toArray w.drew:=by
  rw[al]
  exact run_firstCells_some w.drew 2 i ⟨g,0,none⟩ i cap aA lo (fun t u hu=>by
   refine row_cells (W:=w.drew) hg 0 t u ?_;rw[<- b6,getElem?_take]at hu;split at hu
   ·rw[Nat.zero_add];exact hu
   ·cases hu)
 have aM:=fun ty=>run_append_grow_zeros (P:=Tryz.prog) w 119 3 ty 125 i0 _ .i64 .i64 Tryz.underlying119 Tryz.underlying3 aR ax (some ⟨g,0,none⟩) i cap aA bq k (by omega) (by rw[al];omega) (by omega) (by omega) (by rw[ar];omega) (growslice_fits (by omega) (by rw[ar];omega));rw[show i+k=m by omega,hG]at aM;obtain⟨c2,bI⟩:∃ c,grownCap w m cap 125=c:=⟨_,rfl⟩;have bN:m<=c2:=by rw[<- bI];exact grownCap_ge w m cap _
 have ca:c2<=maxLen:=by rw[<- bI];exact grownCap_le_maxLen w m cap _ (by unfold maxLen;omega)
 rw[bI]at aM;obtain⟨aq,aC⟩:∃ c:Array Value,aA.toArray++Builtin.zeroCells (Value.agg #[Value.string ⟨#[]⟩,Value.pointer none]).cells k++Builtin.zeroCells (Value.agg #[Value.string ⟨#[]⟩,Value.pointer none]).cells (c2-m)=c:=⟨_,rfl⟩
 have l0:aq.size=c2*2:=by
  rw[<- aC];simp only[Array.size_append,size_toArray,size_zeroCells,lo];rw[show(Value.agg #[Value.string ⟨#[]⟩,Value.pointer none]).cells.size=2 by kernel_rfl];omega
 have t0:aq.toList.take (i*2)=aA:=by
  rw[<- aC];simp only[Array.toList_append,append_assoc];rw[<- lo];exact List.take_left
 rw[aC]at aM;have H2:Hid ((w.drew.alloc (.cells aq 125)).heap[G]?=some (.cells aq 125 (0,0))):=hid (by rw[<- hG];exact heap_alloc_new w.drew _);have B2:Hid (Below G w (w.drew.alloc (.cells aq 125))):=hid (by rw[<- hG];exact(Below.refl _ _).drew.alloc (Nat.le_refl _) _);have HA:=hid aM;have bk:∀ W:World,(Instr.slice 119 (.slice (some ⟨G,0,none⟩) m c2) (some (.int .i64 (i:Nat))) none none).run Tryz.prog W=.ok (.slice (some ⟨G,i*2,none⟩) (m-i) (c2-i)) W:=esl_at ensl_names G m i c2 (by omega) (by omega);have bh:∀ W:World,(Instr.slice 119 (.slice (some ⟨G,0,none⟩) m c2) (some (.int .i64 (j:Nat))) none none).run Tryz.prog W=.ok (.slice (some ⟨G,j*2,none⟩) (m-j) (c2-j)) W:=esl_at ensl_names G m j c2 (by omega) (by omega);rw[hk]at bk;obtain⟨q,hq⟩:∃ q,n-i=q:=⟨_,rfl⟩;rw[show m-j=q by omega]at bh;rw[hq]at cR lr;obtain⟨ag,ap⟩:∃ c:Array Value,(lay aq.toList (i*2) (enCells adr e)).toArray=c:=⟨_,rfl⟩;obtain⟨aB,aD⟩:∃ c:Array Value,(lay ag.toList (j*2) rest).toArray=c:=⟨_,rfl⟩;have l1:ag.size=c2*2:=by rw[<- ap,size_toArray,lay_len _ _ _ (by show _+2<=_;rw[Array.length_toList (xs:=aq)];omega),Array.length_toList,l0]
 have l3:aB.size=c2*2:=by rw[<- aD,size_toArray,lay_len _ _ _ (by rw[Array.length_toList (xs:=ag)];omega),Array.length_toList,l1]
 have bU:Hid (∀ W:World,Below G w W->W.heap[G]?=some (.cells aq 125 (0,0))->∀ ty,(Builtin.copy_ #[119,118] ty #[.slice (some ⟨G,i*2,none⟩) k (c2-i),.slice (some ⟨vb,0,none⟩) 1 vc]).run Tryz.prog W=.ok (goInt 1) (W.setRow G ag)):=hid (fun W hW hWG ty=>by
  have cy:W.heap[vb]?=some (.cells #[txt e.path,ptrV adr e.kind] 125 (0,0)):=(hW.block vb (by rw[<- hG];exact(Array.getElem?_eq_some_iff.1 hv).1)).trans hv
  rw[run_copy2 W 119 118 ty 125 G (i*2) k (c2-i) ⟨vb,0,none⟩ 1 vc aq _ (enCells adr e) Tryz.underlying119 size_two hWG 1 (by simp only[Nat.min_def];split<;>omega) rfl (fun t u hu=>by
   refine row_cells cy 0 t u ?_;rw[Nat.zero_add]
   exact hu) (by show _+2<=_;omega) (en_one adr e),← ap]
  rfl)
 have ck:Hid (∀ W:World,Below G w W->W.heap[G]?=some (.cells ag 125 (0,0))->∀ ty,(Builtin.copy_ #[119,119] ty #[.slice (some ⟨G,j*2,none⟩) q (c2-j),.slice (some ⟨g,i*2,none⟩) q (cap-i)]).run Tryz.prog W=.ok (goInt q) (W.setRow G aB)):=hid (fun W hW hWG ty=>by
  have dE:W.heap[g]?=some (.cells ac 125 (0,0)):=(hW.block g (by rw[<- hG];exact(Array.getElem?_eq_some_iff.1 hg).1)).trans hg;rw[run_copy2 W 119 119 ty 125 G (j*2) q (c2-j) ⟨g,i*2,none⟩ q (cap-i) ag _ rest Tryz.underlying119 size_two hWG q (by simp) lr (fun t u hu=>row_cells dE (i*2) t u (b9 t u hu)) (by omega) (by rw[<- ak];exact ens_one adr _),← aD]
  rfl)
 have HT:Hid (aB.toList.take (m*2)=ensC adr (ns.take i++e::ns.drop i)):=hid (by
  have h2:(enCells adr e).length=2:=rfl;rw[ens_ins,holds,ak,← t0,← aD,← ap];have:=lay_two' aq.toList (i*2) (enCells adr e) rest (by rw[h2,Array.length_toList (xs:=aq)];omega);rw[h2,show i*2+2=j*2 by omega,show j*2+rest.length=m*2 by omega]at this;simp only
  exact this)
 have a8:Hid ((ns.take i++e::ns.drop i).length=m):=hid (by rw[ins_len _ _ (by omega),hn,hm]);have dn:=hid l3;have bQ:=hid hG;have d3:q<=1000:=by omega
 clear hg aF a3 hv holds ak lo lr b6 b9 bq aM bI aC l0 t0 ap aD l1 l3 hn hm hk hj hq hG ax al ar aR;go_enter Tryz.func173,Tryz.ntmps173
 repeat (first
  | (at_builtin;refine wpList_append_eq rfl _ _ _ _ rfl _ _ rfl rfl (HA.out _) ?_;generalize w.drew.alloc (.cells aq 125)=w2 at H2 B2 ⊢;have C2:=bU.out w2 B2.out H2.out;have H3:=hid (setRow_heap w2 G aq ag _ _ H2.out);have B3:Hid (Below G w (w2.setRow G ag)):=hid (Below.trans B2.out ⟨rfl,rfl,rfl,by simp,fun k hk=>setRow_other w2 G k ag (by omega)⟩))
  | ((with_reducible refine wpList_copy_eq (o:=⟨some 45,_,_,_,_,_⟩) rfl (.tmp 43) (.tmp 44) _ _ rfl _ _ (by kernel_rfl) (by kernel_rfl) (C2 _) ?_);clear C2;generalize w2.setRow G ag=w3 at H3 B3 ⊢)
  | go_skip|go_guarded|go_step|go_upon)
 go_simp;with_reducible refine QT.region_tail 8 (by kernel_rfl) (by kernel_rfl) ?_
 simp only[take_succ_cons,take_zero,drop_succ_cons,drop_zero];repeat (go_big_quiet_step (fail))
 refine wpQuiet_nil ?_;intro _ hw';obtain⟨⟨dq,au⟩,ay⟩:=hw';subst ay;have ba:=below_regrown w3 dq au;have H4:Hid ((Go.Sort.grow (redrawn w3 dq) au).heap[G]?=some (.cells ag 125 (0,0))):=hid ((ba.block G (Array.getElem?_eq_some_iff.1 H3.out).1).trans H3.out);have B4:Hid (Below G w (Go.Sort.grow (redrawn w3 dq) au)):=hid (Below.trans B3.out (ba.mono (by have:=B3.out.size;rw[bQ.out]at this;exact this)));clear ba;generalize Go.Sort.grow (redrawn w3 dq) au=w4 at H4 B4 ⊢;have C4:=ck.out w4 B4.out H4.out
 repeat (first
  | ((with_reducible refine wpList_copy_eq (o:=⟨some 54,_,_,_,_,_⟩) rfl (.tmp 50) (.tmp 53) _ _ rfl _ _ (by kernel_rfl) (by kernel_rfl) (C4 _) ?_);clear C4)
  | go_skip|go_guarded|go_step|go_upon)
 go_ret;refine⟨_,rfl,⟨by rw[ens_len],.inr ⟨G,c2,aB,by rw[a8.out];rfl,Nat.zero_le _,setRow_heap w4 G ag aB _ _ H4.out,by rw[a8.out];exact bN,ca,dn.out,by rw[a8.out];exact HT.out⟩⟩,fun g' hg'=>?_,?_⟩
 ·injection hg' with hg';right;have:=bQ.out;simp at hg';omega
 ·have B5:Below G w (w4.setRow G aB):=Below.trans B4.out ⟨rfl,rfl,rfl,by simp,fun k hk=>setRow_other w4 G k aB (by omega)⟩;exact⟨B5.os,B5.tape,B5.output,B5.size,fun k hk _=>B5.block k (by rw[<- bQ.out];exact hk)⟩
theorem ins_room(adr:Int->Nat)(g cap n i vb vc:Nat)(ac:Array Value)(ns:List Nd)(e:Nd)(w:World)(hn:ns.length=n)(hi:i<n)(hl:n<=1000)(hg:w.heap[g]?=some (.cells ac 125 (0,0)))(aQ:n+1<=cap)(be:cap<=maxLen)(aF:ac.size=cap*2)(a3:ac.toList.take (n*2)=ensC adr ns)
  (hv:w.heap[vb]?=some (.cells #[txt e.path,ptrV adr e.kind] 125 (0,0))) (hne:vb≠g) :
  Calls Tryz.prog 173 #[.slice (some ⟨g,0,none⟩) n cap,.int .i64 (i:Nat),.slice (some ⟨vb,0,none⟩) 1 vc] w (RowPost adr (ns.take i++e::ns.drop i) (.slice (some ⟨g,0,none⟩) n cap) w):=by
 obtain⟨j,hj⟩:∃ j,i+1=j:=⟨_,rfl⟩;obtain⟨m,hm⟩:∃ m,n+1=m:=⟨_,rfl⟩;have b0:(n:Int)+1=(m:Int):=by omega
 have dd:(i:Int)+1=(j:Int):=by omega
 have dh:¬(cap:Int)<(m:Int):=by omega
 have dp:IntKind.i64.wrap ((i:Int)+1)=(j:Int):=by rw[IntKind.wrap_i64];omega
 have bu:((i:Int)==(n:Int))=false:=by simp;omega
 have cR:∀ W:World,(Instr.slice 119 (.slice (some ⟨g,0,none⟩) n cap) (some (.int .i64 (i:Nat))) none none).run Tryz.prog W=.ok (.slice (some ⟨g,i*2,none⟩) (n-i) (cap-i)) W:=esl_at ensl_names g n i cap (by omega) (by omega);have cD:∀ W:World,(Instr.slice 119 (.slice (some ⟨g,0,none⟩) n cap) none (some (.int .i64 (m:Nat))) none).run Tryz.prog W=.ok (.slice (some ⟨g,0,none⟩) m cap) W:=fun W=>esl_to ensl_names _ n m cap (by omega) W;have bk:∀ W:World,(Instr.slice 119 (.slice (some ⟨g,0,none⟩) m cap) (some (.int .i64 (i:Nat))) none none).run Tryz.prog W=.ok (.slice (some ⟨g,i*2,none⟩) (m-i) (cap-i)) W:=esl_at ensl_names g m i cap (by omega) (by omega);have bh:∀ W:World,(Instr.slice 119 (.slice (some ⟨g,0,none⟩) m cap) (some (.int .i64 (j:Nat))) none none).run Tryz.prog W=.ok (.slice (some ⟨g,j*2,none⟩) (m-j) (cap-j)) W:=esl_at ensl_names g m j cap (by omega) (by omega);obtain⟨q,hq⟩:∃ q,n-i=q:=⟨_,rfl⟩;obtain⟨k,hk⟩:∃ k,m-i=k:=⟨_,rfl⟩;rw[show m-j=q by omega]at bh;rw[hk]at bk;obtain⟨rest,ak⟩:∃ l,ensC adr (ns.drop i)=l:=⟨_,rfl⟩;have lr:rest.length=q*2:=by rw[<- ak,ens_len,length_drop,hn,hq]
 have b6:ac.toList.take (i*2)=ensC adr (ns.take i):=by rw[ens_take,← a3,take_take,Nat.min_eq_left (by omega)]
 have b9:∀(t:Nat) (u:Value),rest[t]?=some u->ac.toList[i*2+t]?=some u:=fun t u hu=>by
  rw[<- ak,ens_drop,← a3,getElem?_drop,getElem?_take]at hu;split at hu
  ·exact hu
  ·cases hu
 have cY:=(Array.getElem?_eq_some_iff.1 hg).1;have dk:=(Array.getElem?_eq_some_iff.1 hv).1
 have dz:∀ lb cb,(callFunc 206 #[.slice (some ⟨vb,0,none⟩) 1 vc,.slice (some ⟨g,j*2,none⟩) lb cb]).run Tryz.prog w=.ok (.value (.bool false)) w:=fun lb cb=>by
  rw[run_callFunc_extern Tryz.func206 (by kernel_rfl) (by kernel_rfl) (by kernel_rfl) (e:=Extern.SlicesOverlaps.overlaps #[118,118] #[4]) (by kernel_rfl),
   Lib.run_overlaps_apart w 118 4 125 Tryz.underlying118 2 (fun W=>by simp[go_sem]) ⟨vb,0,none⟩ ⟨g,j*2,none⟩ 1 vc lb cb hne 125 125 2 ac.size (by simp[World.shape?,hv]) (by simp[World.shape?,hg]) (by omega) (frozen_of_row w vb 0 _ _ hv) (frozen_of_row w vb 2 _ _ hv)]
  rfl
 obtain⟨ag,ap⟩:∃ c:Array Value,(lay ac.toList (j*2) rest).toArray=c:=⟨_,rfl⟩;obtain⟨ah,am⟩:∃ c:Array Value,(lay ag.toList (i*2) (enCells adr e)).toArray=c:=⟨_,rfl⟩;have l1:ag.size=cap*2:=by rw[<- ap,size_toArray,lay_len _ _ _ (by rw[Array.length_toList (xs:=ac)];omega),Array.length_toList,aF]
 have l2:ah.size=cap*2:=by rw[<- am,size_toArray,lay_len _ _ _ (by show _+2<=_;rw[Array.length_toList (xs:=ag)];omega),Array.length_toList,l1]
 have bU:Hid (∀ W:World,W.heap[g]?=some (.cells ac 125 (0,0))->∀ ty,(Builtin.copy_ #[119,119] ty #[.slice (some ⟨g,j*2,none⟩) q (cap-j),.slice (some ⟨g,i*2,none⟩) k (cap-i)]).run Tryz.prog W=.ok (goInt q) (W.setRow g ag)):=hid (fun W hW ty=>by
  rw[run_copy2 W 119 119 ty 125 g (j*2) q (cap-j) ⟨g,i*2,none⟩ k (cap-i) ac _ rest Tryz.underlying119 size_two hW q (by simp only[Nat.min_def];split<;>omega) lr (fun t u hu=>row_cells hW (i*2) t u (b9 t u hu)) (by omega) (by rw[<- ak];exact ens_one adr _),← ap]
  rfl)
 have ck:Hid (∀ W:World,W.heap[vb]?=some (.cells #[txt e.path,ptrV adr e.kind] 125 (0,0))->W.heap[g]?=some (.cells ag 125 (0,0))->∀ ty,(Builtin.copy_ #[119,118] ty #[.slice (some ⟨g,i*2,none⟩) k (cap-i),.slice (some ⟨vb,0,none⟩) 1 vc]).run Tryz.prog W=.ok (goInt 1) (W.setRow g ah)):=hid (fun W cy hW ty=>by
  rw[run_copy2 W 119 118 ty 125 g (i*2) k (cap-i) ⟨vb,0,none⟩ 1 vc ag _ (enCells adr e) Tryz.underlying119 size_two hW 1 (by simp only[Nat.min_def];split<;>omega) rfl (fun t u hu=>by
   refine row_cells cy 0 t u ?_;rw[Nat.zero_add]
   exact hu) (by show _+2<=_;omega) (en_one adr e),← am]
  rfl)
 have HT:Hid (ah.toList.take (m*2)=ensC adr (ns.take i++e::ns.drop i)):=hid (by
  have h2:(enCells adr e).length=2:=rfl;rw[ens_ins,ak,← b6,← am,← ap];have:=lay_two ac.toList (i*2) (enCells adr e) rest (by rw[h2,Array.length_toList (xs:=ac)];omega);rw[h2,show i*2+2=j*2 by omega,show j*2+rest.length=m*2 by omega]at this;simp only
  exact this)
 have a8:Hid ((ns.take i++e::ns.drop i).length=m):=hid (by rw[ins_len _ _ (by omega),hn,hm]);have cZ:=hid l2;have d4:=hid hg;have df:=hid hv;have cd:=hid hne;have b1:m<=cap:=by omega
 have d3:q<=1000:=by omega
 clear hg aF a3 hv ak lr b6 b9 ap am l1 l2 hn hm hk hj hq hne;go_enter Tryz.func173,Tryz.ntmps173;repeat (first|go_skip|go_guarded|go_step|go_upon)
 go_simp;with_reducible refine QT.region_tail 8 (by kernel_rfl) (by kernel_rfl) ?_
 simp only[take_succ_cons,take_zero,drop_succ_cons,drop_zero];clear dz;repeat (go_big_quiet_step (fail))
 refine wpQuiet_nil ?_;intro _ hw';obtain⟨⟨dq,au⟩,ay⟩:=hw';subst ay;have ba:=below_regrown w dq au;have H4:Hid ((Go.Sort.grow (redrawn w dq) au).heap[g]?=some (.cells ac 125 (0,0))):=hid ((ba.block g cY).trans d4.out);have V4:Hid ((Go.Sort.grow (redrawn w dq) au).heap[vb]?=some (.cells #[txt e.path,ptrV adr e.kind] 125 (0,0))):=hid ((ba.block vb dk).trans df.out);have T4:Hid (Turn g w (Go.Sort.grow (redrawn w dq) au)):=hid (turn_below ba);clear ba;generalize Go.Sort.grow (redrawn w dq) au=w4 at H4 V4 T4 ⊢;have C4:=bU.out w4 H4.out
 repeat (first
  | ((with_reducible refine wpList_copy_eq (o:=⟨some 77,_,_,_,_,_⟩) rfl (.tmp 73) (.tmp 76) _ _ rfl _ _ (by kernel_rfl) (by kernel_rfl) (C4 _) ?_);clear C4;have H5:=hid (setRow_heap w4 g ac ag _ _ H4.out);have V5:=hid ((setRow_other w4 g vb ag cd.out).trans V4.out);have T5:=hid (setRow_turn T4.out ag);generalize w4.setRow g ag=w5 at H5 V5 T5 ⊢;have C5:=ck.out w5 V5.out H5.out)
  | ((with_reducible refine wpList_copy_eq (o:=⟨some 82,_,_,_,_,_⟩) rfl (.tmp 80) (.tmp 81) _ _ rfl _ _ (by kernel_rfl) (by kernel_rfl) (C5 _) ?_);clear C5)
  | go_skip|go_guarded|go_step|go_upon)
 go_ret;refine⟨_,rfl,⟨by rw[ens_len],.inr ⟨g,cap,ah,by rw[a8.out];rfl,Nat.zero_le _,setRow_heap w5 g ag ah _ _ H5.out,by rw[a8.out];exact b1,be,cZ.out,by rw[a8.out];exact HT.out⟩⟩,fun g' hg'=>.inl ?_,?_⟩
 ·simpa[Value.ownBlock] using hg'
 ·exact(setRow_turn T5.out ah).mono (fun k _ hk=>by subst hk;rfl)
theorem insert_any(adr:Int->Nat)(v:Value)(n i vb vc:Nat)(ns:List Nd)(e:Nd)(w:World)(hn:ns.length=n)(hi:i<=n)(hl:n<=1000)(hown:OwnE w adr v ns)(hv:w.heap[vb]?=some (.cells #[txt e.path,ptrV adr e.kind] 125 (0,0)))(hne:v.ownBlock≠some vb) :
  Calls Tryz.prog 173 #[v,.int .i64 (i:Nat),.slice (some ⟨vb,0,none⟩) 1 vc] w (RowPost adr (ns.take i++e::ns.drop i) v w):=by
 by_cases h:i=n
 ·subst h;obtain⟨ao,cap,rfl,_,hc⟩:=ins_end adr v i vb vc ns e w hn hl hown hv;rw[<- hn,take_length,List.drop_length];rw[<- hn]at hc;exact hc
 ·rcases hown.2 with ⟨_,h0⟩|⟨g,cap,ac,rfl,_,hg,aQ,be,aF,a3⟩
  ·omega
  ·rw[hn]at aQ a3 ⊢;by_cases hr:n+1<=cap
   ·exact ins_room adr g cap n i vb vc ac ns e w hn (by omega) hl hg hr be aF a3 hv (fun h=>hne (by rw[h];rfl))
   ·exact ins_grow adr g cap n i vb vc ac ns e w hn (by omega) hl hg aQ (by omega) aF a3 hv
end DG
end
section
namespace DP
open Go NP TP
theorem take_not{ns:List Nd}{p:List UInt8}{k:Nat}(ha:Ahead ns p k):∀ e∈ns.take k,ordL e.path p<0:=fun e he=>by
 obtain⟨m,hm,hx⟩:=mem_take he;exact ha m e hm hx
theorem drop_not{ns:List Nd}{p:List UInt8}{k:Nat}(hb:Behind ns p k):∀ e∈ns.drop k,¬ ordL e.path p<0:=fun e he=>by
 obtain⟨m,hm,hx⟩:=mem_drop he;exact hb m e hm hx
theorem ord_eq{a b:List UInt8}(h:a=b):¬ ordL a b<0:=by subst h;exact ord_irr a
theorem del_yes{ns:List Nd}{p:List UInt8}{k:Nat}{x:Nd}(hs:Sorted ns)(h:PlaceAt ns p k)(hx:ns[k]?=some x)(he:x.path=p):delE ns p=ns.take k++ns.drop (k+1):=by
 unfold delE;have hk:=(List.getElem?_eq_some_iff.1 hx).1
 have e0:ns=ns.take k++x::ns.drop (k+1):=by
  conv=>lhs;rw[<- take_append_drop k ns]
  congr 1;rw[List.drop_eq_getElem_cons hk];congr 1;exact(List.getElem?_eq_some_iff.1 hx).2
 conv=>lhs;rw[e0]
 rw[List.filter_append,List.filter_cons];rw[show decide (x.path≠p)=false by simp[he]];rw[List.filter_eq_self.2 (fun e hm=>?_),List.filter_eq_self.2 (fun e hm=>?_)]
 ·rfl
 ·simp only[decide_eq_true_eq];obtain⟨m,dJ,ds⟩:=mem_drop hm;have:=sorted_at hs hx ds (by omega);rw[he]at this;intro e2;rw[e2]at this;exact ord_irr p this
 ·simp only[decide_eq_true_eq];intro e2;exact ord_eq e2 (take_not h.ahead e hm)
theorem del_no{ns:List Nd}{p:List UInt8}{k:Nat}(hs:Sorted ns)(h:PlaceAt ns p k)(aj:∀ x,ns[k]?=some x->x.path≠p):delE ns p=ns:=by
 unfold delE;have hf:=place_no hs h aj;unfold findN at hf;rw[List.find?_eq_none]at hf;exact List.filter_eq_self.2 fun e he=>by simpa using hf e he
theorem ins_at{ns:List Nd}{e:Nd}{k:Nat}(h:PlaceAt ns e.path k):insE ns e=ns.take k++e::ns.drop k:=by
 have h1:ns.filter (fun x=>decide (ordL x.path e.path<0))=ns.take k:=by
  conv=>lhs;rw[<- take_append_drop k ns]
  rw[List.filter_append,List.filter_eq_self.2 (fun x hx=>decide_eq_true (take_not h.ahead x hx)),List.filter_eq_nil_iff.2 (fun x hx=>by simpa using drop_not h.behind x hx),List.append_nil]
 have h2:ns.filter (fun x=>!decide (ordL x.path e.path<0))=ns.drop k:=by
  conv=>lhs;rw[<- take_append_drop k ns]
  rw[List.filter_append,List.filter_eq_nil_iff.2 (fun x hx=>by simpa using take_not h.ahead x hx),List.filter_eq_self.2 (fun x hx=>by simpa using drop_not h.behind x hx),nil_append]
 unfold insE;rw[h1,h2]
theorem place_del{ns:List Nd}{p:List UInt8}{k:Nat}{x:Nd}(hs:Sorted ns)(h:PlaceAt ns p k)(hx:ns[k]?=some x):PlaceAt (ns.take k++ns.drop (k+1)) p k:=by
 have hk:=(List.getElem?_eq_some_iff.1 hx).1;have hl:(ns.take k).length=k:=by rw[length_take];omega
 refine⟨by rw[length_append,hl];omega,fun j y hj hy=>?_,fun j y hj hy=>?_⟩
 ·rw[List.getElem?_append_left (by omega),getElem?_take,if_pos hj]at hy;exact h.ahead j y hj hy
 ·rw[List.getElem?_append_right (by omega),hl,getElem?_drop]at hy;exact h.behind _ y (by omega) hy
theorem put_yes_gone{ns:List Nd}{e x:Nd}{k:Nat}(hs:Sorted ns)(h:PlaceAt ns e.path k)(hx:ns[k]?=some x)(he:x.path=e.path)(h0:e.kind=0):putE ns e=ns.take k++ns.drop (k+1):=by
 unfold putE;rw[if_pos h0,del_yes hs h hx he]
theorem put_yes_new{ns:List Nd}{e x:Nd}{k:Nat}(hs:Sorted ns)(h:PlaceAt ns e.path k)(hx:ns[k]?=some x)(he:x.path=e.path)(h0:e.kind≠0):putE ns e=(ns.take k++ns.drop (k+1)).take k++e::(ns.take k++ns.drop (k+1)).drop k:=by
 unfold putE;rw[if_neg h0,del_yes hs h hx he,ins_at (place_del hs h hx)]
theorem put_no_gone{ns:List Nd}{e:Nd}{k:Nat}(hs:Sorted ns)(h:PlaceAt ns e.path k)(aj:∀ x,ns[k]?=some x->x.path≠e.path)(h0:e.kind=0):putE ns e=ns:=by
 unfold putE;rw[if_pos h0,del_no hs h aj]
theorem put_no_new{ns:List Nd}{e:Nd}{k:Nat}(hs:Sorted ns)(h:PlaceAt ns e.path k)(aj:∀ x,ns[k]?=some x->x.path≠e.path)(h0:e.kind≠0):putE ns e=ns.take k++e::ns.drop k:=by
 unfold putE;rw[if_neg h0,del_no hs h aj,ins_at h]
theorem sorted_del{ns:List Nd}(h:Sorted ns)(p:List UInt8):Sorted (delE ns p):=sorted_filter h _
theorem mem_del{ns:List Nd}{p:List UInt8}{e:Nd}:e∈delE ns p↔e∈ns/\e.path≠p:=by
 unfold delE;rw[mem_filter];simp
theorem mem_ins{ns:List Nd}{e x:Nd}:x∈insE ns e↔x=e\/x∈ns:=by
 unfold insE;rw[List.mem_append,List.mem_cons,mem_filter,mem_filter];constructor
 ·rintro (⟨h,_⟩|h|⟨h,_⟩)
  ·exact .inr h
  ·exact .inl h
  ·exact .inr h
 ·rintro (h|h)
  ·exact .inr (.inl h)
  ·by_cases ho:ordL x.path e.path<0
   ·exact .inl ⟨h,decide_eq_true ho⟩
   ·exact .inr (.inr ⟨h,by simpa using ho⟩)
theorem mem_put{ns:List Nd}{e x:Nd}:x∈putE ns e↔(x∈ns/\x.path≠e.path)\/(e.kind≠0/\x=e):=by
 unfold putE;by_cases h:e.kind=0
 ·rw[if_pos h,mem_del];exact⟨.inl,fun h2=>h2.elim id (fun h3=>absurd h h3.1)⟩
 ·rw[if_neg h,mem_ins,mem_del];exact⟨fun h2=>h2.elim (fun e1=>.inr ⟨h,e1⟩) .inl,fun h2=>h2.elim .inr (fun h3=>.inl h3.2)⟩
theorem sorted_ins{ns:List Nd}{e:Nd}(h:Sorted ns)(aj:∀ x∈ns,x.path≠e.path):Sorted (insE ns e):=by
 unfold insE;refine List.pairwise_append.2 ⟨List.Pairwise.filter _ h,List.pairwise_cons.2 ⟨fun y hy=>?_,List.Pairwise.filter _ h⟩,fun a ha b hb=>?_⟩
 ·obtain⟨h1,h2⟩:=List.mem_filter.1 hy;have h3:¬ ordL y.path e.path<0:=by simpa using h2
  rcases ord_tri e.path y.path with h4|h4|h4
  ·exact h4
  ·exact absurd h4.symm (aj y h1)
  ·exact absurd h4 h3
 ·obtain⟨_,h2⟩:=List.mem_filter.1 ha;have h3:ordL a.path e.path<0:=by simpa using h2
  rcases List.mem_cons.1 hb with rfl|hb
  ·exact h3
  ·obtain⟨h4,h5⟩:=List.mem_filter.1 hb;have h6:¬ ordL b.path e.path<0:=by simpa using h5
   rcases ord_tri e.path b.path with h7|h7|h7
   ·exact ord_lt h3 h7
   ·exact absurd h7.symm (aj b h4)
   ·exact absurd h7 h6
theorem sorted_put{ns:List Nd}(h:Sorted ns)(e:Nd):Sorted (putE ns e):=by
 unfold putE;split
 ·exact sorted_del h _
 ·exact sorted_ins (sorted_del h _) (fun x hx=>(mem_del.1 hx).2)
theorem with_snoc(ns c:List Nd)(e:Nd):withE ns (c++[e])=putE (withE ns c) e:=by unfold withE;rw[List.foldl_append];rfl
theorem with_succ{ns c:List Nd}{k:Nat}{x:Nd}(hx:c[k]?=some x):withE ns (c.take (k+1))=putE (withE ns (c.take k)) x:=by
 rw[take_add_one,hx,Option.toList_some,with_snoc]
theorem with_app(ns a b:List Nd):withE ns (a++b)=withE (withE ns a) b:=by unfold withE;rw[List.foldl_append]
theorem sorted_with{ns:List Nd}(h:Sorted ns):∀ c:List Nd,Sorted (withE ns c):=by
 intro c
 induction c generalizing ns with
 | nil=>exact h
 | cons e c ih=>exact ih (sorted_put h e)
theorem mem_with{ns:List Nd}{x:Nd}:∀ {c:List Nd},x∈withE ns c->x∈ns\/(x∈c/\x.kind≠0):=by
 intro c
 induction c generalizing ns with
 | nil=>exact .inl
 | cons e c ih =>
  intro h;rcases ih (ns:=putE ns e) h with h|h
  ·rcases mem_put.1 h with h|h
   ·exact .inl h.1
   ·obtain⟨h1,rfl⟩:=h;exact .inr ⟨List.mem_cons_self ..,h1⟩
  ·exact .inr ⟨List.mem_cons_of_mem _ h.1,h.2⟩
theorem put_len(ns:List Nd)(e:Nd):(putE ns e).length<=ns.length+1:=by
 have h1:(delE ns e.path).length<=ns.length:=List.length_filter_le _ _;unfold putE;split
 ·omega
 ·unfold insE;rw[length_append,length_cons];have:=filter_two (delE ns e.path) (fun _=>true) (fun x=>decide (ordL x.path e.path<0));simp only[Bool.true_and]at this;omega
end DP
end
section
open Go.RowKit Go.Lib Go.BigFrame
namespace DG
open OM TP TM DP DM TG TR FP
theorem delete_own(adr:Int->Nat)(ao:Option Addr)(n cap i:Nat)(z:Int)(ns:List Nd)(w:World)(hn:ns.length=n)(hi:i<n)(hl:n<=1001)(hz:z=(i:Int)+1)(hown:OwnE w adr (.slice ao n cap) ns) :
  Calls Tryz.prog 172 #[.slice ao n cap,.int .i64 (i:Nat),.int .i64 z] w (RowPost adr (ns.take i++ns.drop (i+1)) (.slice ao n cap) w):=by
 have ar:z=((i+1:Nat):Int):=by omega
 rw[ar];rcases hown.2 with ⟨e0,h0⟩|⟨g,du,ac,e0,_,hg,aQ,be,aF,a3⟩
 ·omega
 ·injection e0 with e1 e2 e3;subst e1 e3;rw[hn]at aQ a3;refine(delete_any adr g cap n i ac ns w hn hi hl hg aQ be aF a3).mono ?_;rintro r w' ⟨rfl,ho,ht⟩;exact⟨_,rfl,ho,fun g' hg'=>.inl hg',ht.mono (fun k _ hk=>by subst hk;rfl)⟩
theorem out_two{v v':Value}{w w1 w2:World}(h:Out (fun k=>v.ownBlock=some k) w w1)(hb:∀ g,v'.ownBlock=some g->v.ownBlock=some g\/w.heap.size<=g)(k:Out (fun k=>v'.ownBlock=some k) w1 w2):Out (fun k=>v.ownBlock=some k) w w2 :=
 h.then k (fun j hj hT=>by
  rcases hb j hT with h|h
  ·exact h
  ·omega)
theorem blocks_two{v v' v2:Value}{w w1:World}(hs:w.heap.size<=w1.heap.size)(hb:∀ g,v'.ownBlock=some g->v.ownBlock=some g\/w.heap.size<=g)(hb2:∀ g,v2.ownBlock=some g->v'.ownBlock=some g\/w1.heap.size<=g):∀ g,v2.ownBlock=some g->v.ownBlock=some g\/w.heap.size<=g:=fun g hg=>by
 rcases hb2 g hg with h|h
 ·exact hb g h
 ·exact .inr (by omega)
theorem own_lt{w:World}{adr:Int->Nat}{v:Value}{ns:List Nd}(h:OwnE w adr v ns):∀ g,v.ownBlock=some g->g<w.heap.size:=fun g hg=>(h.lt g hg).2
def WithInv(adr:Int->Nat)(v:Value)(ns c:List Nd)(n:Nat)(w:World)(s0 s11:Value)(wr:World):Prop :=
 ∃(k:Nat) (u:Value),s11=.int .i64 k/\u=s0/\k<=n/\OwnE wr adr u (withE ns (c.take k))/\(∀ g,u.ownBlock=some g->v.ownBlock=some g\/w.heap.size<=g)/\Out (fun k=>v.ownBlock=some k) w wr
theorem with_any(adr:Int->Nat)(v:Value)(ns:List Nd)(co:Option Addr)(cc:Nat)(c:List Nd)(w:World)(hown:OwnE w adr v ns)(hso:Sorted ns)(hs:SmallE ns)(hc:LayE w adr co c)(aF:SmallE c)
  (hne:∀ a,co=some a->v.ownBlock≠some a.block) (hlen:∀ k,(withE ns (c.take k)).length<=1000) (hcl:c.length<=1000000) :
  Calls Tryz.prog 125 #[v,.slice co c.length cc] w (RowPost adr (withE ns c) v w):=by
 obtain⟨n,hn⟩:∃ n,c.length=n:=⟨_,rfl⟩;have HN:=hid hn;have HC:=hid hc;have cU:=hid hso;have bW:=hid hlen;have cd:=hid hne
 have d2:Hid (∀ k,SmallE (withE ns (c.take k))):=hid (fun k e he=>by
  rcases mem_with he with h|h
  ·exact hs e h
  ·exact aF e (List.mem_of_mem_take h.1))
 have de:=hid aF;have HF:Hid (withE ns (c.take n)=withE ns c):=hid (by rw[<- hn,take_length]);have H0:Hid (WithInv adr v ns c n w v (.int .i64 0) w):=hid ⟨0,v,rfl,rfl,Nat.zero_le _,hown,fun g hg=>.inl hg,Out.refl _ _⟩;obtain⟨dN,dx,b3,_⟩:=layE_own hown;rw[hn]at hcl ⊢;clear hown hso hs hc aF hne hlen hn;go_enter Tryz.func125,Tryz.ntmps125;clear b3;repeat (first|go_skip|go_guarded|go_step|go_upon)
 go_loopw [0,11] (fun s0 s11 wr=>WithInv adr v ns c n w s0 s11 wr) (fun _ s11 _=>n-(RowKit.intOf s11).toNat)
 case atStart=>exact H0.out
 case round =>
  obtain⟨k,s0,rfl,rfl,hk,ho,bG,a9⟩:=hrel;have HB:=hid bG;have HO:=hid a9;have d1:=a9.size;by_cases hlt:k<n
  ·have bi:(k:Int)<n:=by omega
   obtain⟨x,hx⟩:∃ x,c[k]?=some x:=⟨c[k]'(by rw[HN.out];exact hlt),getElem?_eq_getElem _⟩;have cT:LayE wr adr co c:=HC.out.same a9.size (fun a ha hlt'=>a9.block _ hlt' (cd.out a ha));obtain⟨g,o,rfl,hg,aX⟩:=cT (by rw[HN.out];omega);obtain⟨c0,c1⟩:=aX k x hx;obtain⟨X,hX,_⟩:=txt_of x.path;obtain⟨a,ha⟩:=ptr_cases adr x.kind;have cF:=de.out x (mem_of_getElem? hx);have HK:=hid (with_succ (ns:=ns) hx);obtain⟨M,hM⟩:∃ M,withE ns (c.take k)=M:=⟨_,rfl⟩;have bF:=bW.out k;have c7:=d2.out k;have cp:Sorted M:=by rw[<- hM];exact sorted_with cU.out _
   rw[hM]at ho bF c7 HK;obtain⟨ao,cap,bA,av,az,da,d9⟩:=layE_own ho;obtain⟨mm,bE⟩:∃ mm,M.length=mm:=⟨_,rfl⟩;have cW:s0=.slice ao mm cap:=by rw[bA,bE]
   clear bA da;subst cW;have a7:=hid ho;have B0:Hid (Below wr.heap.size wr (wr.alloc (.cells #[.string X,.pointer a] 125))):=hid ((Below.refl _ _).alloc (Nat.le_refl _) _)
   have CP:Hid (Calls Tryz.prog 126 #[.slice ao mm cap,.string X] (wr.alloc (.cells #[.string X,.pointer a] 125)) (PlacePost M x.path (wr.alloc (.cells #[.string X,.pointer a] 125)))):=hid (by
    have:=dplace_any adr ao cap M x.path _ (av.below B0.out) cp c7 bF cF;rw[bE,hX]at this
    exact this)
   have R0:Hid ((wr.alloc (.cells #[.string X,.pointer a] 125)).heap[wr.heap.size]?=some (.cells #[.string X,.pointer a] 125 (0,0))):=hid (heap_alloc_new wr _);have cS:=hid hX;have cL:=hid ha;have d0:Hid (M.length<=1000):=hid bF;have bB:=hid cp;have bj:=hid bE;rw[hX]at c0;rw[ha]at c1;have cK:Hid (∀ g,(Value.slice ao mm cap).ownBlock=some g->g<wr.heap.size):=hid (own_lt ho);clear cT aX hx hX cF hM bF c7 cp av az d9 bE a9 bG ho hlt;repeat (first|go_skip|go_guarded|go_step|go_upon)
   refine CP.out.mono ?_;rintro r w1 ⟨i,b,rfl,⟨aL,bg⟩,hb⟩;simp only[];have B1:=hid (Below.trans B0.out (hb.mono B0.out.size));have R1:Hid (w1.heap[wr.heap.size]?=some (.cells #[.string X,.pointer a] 125 (0,0))):=hid ((hb.block wr.heap.size (by simp)).trans R0.out);have al:wr.heap.size<w1.heap.size:=by have:=hb.size;simp at this;omega
   have O1:=hid (owns_below a7.out B1.out);have U1:Hid (Out (fun k=>v.ownBlock=some k) w w1):=hid (HO.out.thenBelow B1.out);have aS:=hid aL;have dy:i<=mm:=by have:=aL.le;have:=bj.out;omega
   have bX:mm<=1000:=by have:=d0.out;have:=bj.out;omega
   obtain⟨e0,e1,ef⟩:=row2 R1.out;clear hb aL;rcases bg with ⟨rfl,y,hy,cC⟩|⟨rfl,aj⟩
   ·have dD:=(List.getElem?_eq_some_iff.1 hy).1;have bM:i<mm:=by have:=bj.out;omega
    have CD:Hid (∀ z:Int,z=(i:Int)+1->Calls Tryz.prog 172 #[.slice ao mm cap,.int .i64 (i:Nat),.int .i64 z] w1 (RowPost adr (M.take i++M.drop (i+1)) (.slice ao mm cap) w1)):=hid (fun z hz=>delete_own adr ao mm cap i z M w1 bj.out bM (by omega) hz O1.out);have HY:=hid hy;have cG:=hid cC;clear dD hy cC;repeat (first|go_skip|go_guarded|go_step|go_upon)
    refine(CD.out _ (by first|rfl|omega)).mono ?_;rintro r w2 ⟨v2,rfl,o2,b2,u2⟩;simp only[];have O2:=hid o2;have U2:=hid (out_two U1.out HB.out u2);have c8:=hid (blocks_two (Nat.le_trans d1 (Nat.le_of_lt al)) HB.out b2);have ar:wr.heap.size<w2.heap.size:=Nat.lt_of_lt_of_le al u2.size;have R2:Hid (w2.heap[wr.heap.size]?=some (.cells #[.string X,.pointer a] 125 (0,0))):=hid (u2.row R1.out (fun h=>by have:=cK.out _ h;omega));have br:v2.ownBlock≠some w2.heap.size:=fun h=>by have:=own_lt o2 _ h;omega
    have bt:=hid br;obtain⟨e0,e1,ef⟩:=row2 R2.out;clear o2 b2 u2 br;by_cases a5:x.kind=0
    ·have HE:Hid (putE M x=M.take i++M.drop (i+1)):=hid (put_yes_gone bB.out aS.out HY.out cG.out a5);have bT:a=none:=by rw[a5]at ha;exact(Value.pointer.inj ha).symm
     subst bT;clear a5 ha;repeat (first|go_skip|go_guarded|go_step|go_upon)
     refine⟨⟨k+1,_,by go_num,rfl,by omega,?_,c8.out,U2.out⟩,by simp[RowKit.intOf];omega⟩;rw[HK.out,HE.out];exact O2.out
    ·have HE:=hid (put_yes_new bB.out aS.out HY.out cG.out a5)
     obtain⟨ga,bn⟩:∃ ga,a=some ga:=by
      rw[ptr_pos adr a5]at ha;exact⟨_,(Value.pointer.inj ha).symm⟩
     subst bn;have HD:Hid ((M.take i++M.drop (i+1)).length+1=mm):=hid (by rw[del_len M (by have:=bj.out;omega)];have:=bj.out;omega);have CI:Hid (Calls Tryz.prog 173 #[v2,.int .i64 (i:Nat),.slice (some ⟨w2.heap.size,0,none⟩) 1 1] (w2.alloc (.cells #[.string X,.pointer (some ga)] 125)) (RowPost adr ((M.take i++M.drop (i+1)).take i++x::(M.take i++M.drop (i+1)).drop i) v2 (w2.alloc (.cells #[.string X,.pointer (some ga)] 125)))):=hid (insert_any adr v2 _ i w2.heap.size 1 (M.take i++M.drop (i+1)) x _ rfl (by have:=HD.out;omega) (by have:=HD.out;omega) (O2.out.alloc _) (by rw[cS.out,cL.out];exact heap_alloc_new w2 _) bt.out);have U3:Hid (Out (fun k=>v.ownBlock=some k) w (w2.alloc (.cells #[.string X,.pointer (some ga)] 125))):=hid (U2.out.alloc _);clear a5 ha;repeat (first|go_skip|go_guarded|go_step|go_upon)
     refine CI.out.mono ?_;rintro r w4 ⟨v4,rfl,o4,b4,u4⟩;simp only[];have O4:=hid o4;have U4:=hid (out_two U3.out c8.out u4);have bV:=hid (blocks_two U3.out.size c8.out b4);clear o4 b4 u4;repeat (first|go_skip|go_guarded|go_step|go_upon)
     refine⟨⟨k+1,_,by go_num,rfl,by omega,?_,bV.out,U4.out⟩,by simp[RowKit.intOf];omega⟩;rw[HK.out,HE.out];exact O4.out
   ·by_cases a5:x.kind=0
    ·have HE:Hid (putE M x=M):=hid (put_no_gone bB.out aS.out aj a5);have bT:a=none:=by rw[a5]at ha;exact(Value.pointer.inj ha).symm
     subst bT;clear a5 ha aj;repeat (first|go_skip|go_guarded|go_step|go_upon)
     refine⟨⟨k+1,_,by go_num,rfl,by omega,?_,HB.out,U1.out⟩,by simp[RowKit.intOf];omega⟩;rw[HK.out,HE.out];exact O1.out
    ·have HE:=hid (put_no_new bB.out aS.out aj a5)
     obtain⟨ga,bn⟩:∃ ga,a=some ga:=by
      rw[ptr_pos adr a5]at ha;exact⟨_,(Value.pointer.inj ha).symm⟩
     subst bn;have CI:Hid (Calls Tryz.prog 173 #[.slice ao mm cap,.int .i64 (i:Nat),.slice (some ⟨w1.heap.size,0,none⟩) 1 1] (w1.alloc (.cells #[.string X,.pointer (some ga)] 125)) (RowPost adr (M.take i++x::M.drop i) (.slice ao mm cap) (w1.alloc (.cells #[.string X,.pointer (some ga)] 125)))):=hid (insert_any adr (.slice ao mm cap) mm i w1.heap.size 1 M x _ bj.out dy bX (O1.out.alloc _) (by rw[cS.out,cL.out];exact heap_alloc_new w1 _) (fun h=>by have:=cK.out _ h;omega));have U3:Hid (Out (fun k=>v.ownBlock=some k) w (w1.alloc (.cells #[.string X,.pointer (some ga)] 125))):=hid (U1.out.alloc _);clear a5 ha aj;repeat (first|go_skip|go_guarded|go_step|go_upon)
     refine CI.out.mono ?_;rintro r w4 ⟨v4,rfl,o4,b4,u4⟩;simp only[];have O4:=hid o4;have U4:=hid (out_two U3.out HB.out u4);have bV:=hid (blocks_two U3.out.size HB.out b4);clear o4 b4 u4;repeat (first|go_skip|go_guarded|go_step|go_upon)
     refine⟨⟨k+1,_,by go_num,rfl,by omega,?_,bV.out,U4.out⟩,by simp[RowKit.intOf];omega⟩;rw[HK.out,HE.out];exact O4.out
  ·have bi:¬(k:Int)<n:=by omega
   have bC:k=n:=by omega
   have HP:Hid (RowPost adr (withE ns c) v w (.returned s0) wr):=hid ⟨s0,rfl,by rw[<- HF.out,← bC];exact ho,bG,a9⟩;clear hlt ho bG a9 bC;repeat (first|go_skip|go_guarded|go_step|go_upon)
   go_ret;exact HP.out
end DG
end
end Go.Proofs.YtkmcjededpamnaaGreatDoor
