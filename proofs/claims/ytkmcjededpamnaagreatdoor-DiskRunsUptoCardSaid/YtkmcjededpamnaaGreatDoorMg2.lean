import Derived.Test.YtkmcjededpamnaaGreatDoorMg1
import Derived.Test.YtkmcjededpamnaaGreatDoorR01
import Derived.WalkKit
import Derived.WalkMore
import Derived.IntWalk
import Derived.Below
import Derived.Lib.Hide
import Derived.BigRegion
import Derived.BigQuiet
import Derived.Deep.RegionWith
import Derived.Lib.QuietBelow
import Derived.Lib.IndexBytes
import Derived.Laws.StructEq
import Derived.Laws.AppendOwn
import Derived.Laws.OwnMore
import Derived.Laws.AppendOwnNone
import Derived.Laws.Strings3
set_option linter.all false
set_option maxRecDepth 100000
set_option maxHeartbeats 0
namespace Go.Proofs.YtkmcjededpamnaaGreatDoor
open List(getElem?_eq_getElem mem_of_getElem? take_add_one take_of_length_le map_append)
section
open Go.RowKit Go.Lib Go.BigFrame
namespace TR
open OM TP TM
theorem str_eq(a b:List UInt8):((⟨a.toArray⟩:ByteArray).toList==(⟨b.toArray⟩:ByteArray).toList)=decide (a=b):=by
 rw[toList_data,toList_data,Bool.eq_iff_iff];simp
theorem byte_at(p:ByteArray)(i:Nat)(h:i<p.size)(z:Int)(hz:z=i) :
  ∃ x:Nat,(p.data.toList.getD i 0).toNat=x/\(x:Int)<256/\∀ W,(Instr.index 9 (.string p) (.int .i64 z)).run Tryz.prog W=.ok (.int .u8 (x:Nat)) W:=by
 subst hz;refine⟨_,rfl,?_,fun W=>?_⟩
 ·have:=(p.data.toList.getD i 0).toNat_lt;omega
 ·have h0:0<=(i:Int)/\(i:Int)<(p.size:Int):=by omega
  rw[run_index_string W 9 p .i64 (i:Int) Tryz.underlying9,dif_pos h0];have e:=data_getElem? p i h;rw[List.getD_eq_getElem?_getD,e];rfl
theorem contains_take{l:List UInt8}{k:Nat}{x:UInt8}(h:l[k]?=some x)(h0:(l.take k).contains 0=false):(l.take (k+1)).contains 0=decide (x=0):=by
 rw[take_add_one,h,Option.toList_some,List.contains_append,h0,Bool.false_or];simp[eq_comm]
theorem rright_any(n:Nd)(w:World)(hd:n.data.length<=maxLen):Calls Tryz.prog 87 #[ndVal n] w fun r w'=>r=.returned (.bool (rightB n))/\Below w.heap.size w w':=by
 obtain⟨p,k,d,m⟩:=n;unfold ndVal txt;simp only at hd ⊢;obtain⟨S,hS⟩:∃ S:ByteArray,⟨d.toArray⟩=S:=⟨_,rfl⟩;have al:S.data.toList=d:=by rw[<- hS]
 obtain⟨dl,av⟩:∃ dl,d.length=dl:=⟨_,rfl⟩;have bG:S.size=dl:=by rw[size_eq,al];exact av
 unfold maxLen at hd;rw[hS];have B0:Hid (Below w.heap.size w (w.alloc (.cells #[.string ⟨p.toArray⟩,.int .i64 k,.string S,.int .i64 m] 45))):=hid ((Below.refl _ _).alloc (Nat.le_refl _) _);by_cases h1:k=1
 ·have k1:(k==1)=true:=by simp[h1]
  have HR:Hid (rightB ⟨p,k,d,m⟩=(decide (dl<=65536)&&decide (0<=m)&&decide (m<=511))):=hid (by unfold rightB;simp only;rw[if_pos h1,av]);clear hS al av hd h1;by_cases a1:dl<=65536
  ·have b1:(dl:Int)<=65536:=by omega
   by_cases a2:0<=m
   ·by_cases a3:m<=511
    ·have HB:Hid (rightB ⟨p,k,d,m⟩=true):=hid (by rw[HR.out,decide_eq_true a1,decide_eq_true a2,decide_eq_true a3];rfl);clear a1;go_enter Tryz.func87,Tryz.ntmps87;repeat (first|go_skip|go_guarded|go_step|go_upon)
     go_ret;exact⟨by rw[HB.out];rfl,B0.out⟩
    ·have HB:Hid (rightB ⟨p,k,d,m⟩=false):=hid (by rw[HR.out,decide_eq_false a3];simp);clear a1;go_enter Tryz.func87,Tryz.ntmps87;repeat (first|go_skip|go_guarded|go_step|go_upon)
     go_ret;exact⟨by rw[HB.out];rfl,B0.out⟩
   ·have HB:Hid (rightB ⟨p,k,d,m⟩=false):=hid (by rw[HR.out,decide_eq_false a2];simp);clear a1;go_enter Tryz.func87,Tryz.ntmps87;repeat (first|go_skip|go_guarded|go_step|go_upon)
    go_ret;exact⟨by rw[HB.out];rfl,B0.out⟩
  ·have b1:¬(dl:Int)<=65536:=by omega
   have HB:Hid (rightB ⟨p,k,d,m⟩=false):=hid (by rw[HR.out,decide_eq_false a1];simp);clear a1;go_enter Tryz.func87,Tryz.ntmps87;repeat (first|go_skip|go_guarded|go_step|go_upon)
   go_ret;exact⟨by rw[HB.out];rfl,B0.out⟩
 ·have k1:(k==1)=false:=by simp[h1]
  by_cases h2:k=2
  ·have k2:(k==2)=true:=by simp[h2]
   have HR:Hid (rightB ⟨p,k,d,m⟩=(decide (d=[])&&decide (m=0))):=hid (by unfold rightB;simp only;rw[if_neg h1,if_pos h2]);clear av hd h1 h2 bG;by_cases a1:d=[]
   ·have b1:S.toList.isEmpty=true:=by rw[toList_data,al,a1];rfl
    by_cases a2:m=0
    ·have b2:(m==0)=true:=by simp[a2]
     have HB:Hid (rightB ⟨p,k,d,m⟩=true):=hid (by rw[HR.out,decide_eq_true a1,decide_eq_true a2];rfl);clear a1 a2 hS al;go_enter Tryz.func87,Tryz.ntmps87;repeat (first|go_skip|go_guarded|go_step|go_upon)
     go_ret;exact⟨by rw[HB.out];rfl,B0.out⟩
    ·have b2:(m==0)=false:=by simp[a2]
     have HB:Hid (rightB ⟨p,k,d,m⟩=false):=hid (by rw[HR.out,decide_eq_false a2];simp);clear a1 a2 hS al;go_enter Tryz.func87,Tryz.ntmps87;repeat (first|go_skip|go_guarded|go_step|go_upon)
     go_ret;exact⟨by rw[HB.out];rfl,B0.out⟩
   ·have b1:S.toList.isEmpty=false:=by rw[toList_data,al];simp[a1]
    have HB:Hid (rightB ⟨p,k,d,m⟩=false):=hid (by rw[HR.out,decide_eq_false a1];simp);clear a1 hS al;go_enter Tryz.func87,Tryz.ntmps87;repeat (first|go_skip|go_guarded|go_step|go_upon)
    go_ret;exact⟨by rw[HB.out];rfl,B0.out⟩
  ·have k2:(k==2)=false:=by simp[h2]
   by_cases h3:k=3
   ·have k3:(k==3)=true:=by simp[h3]
    have HR:Hid (rightB ⟨p,k,d,m⟩=(!(d.contains 0)&&decide (1<=dl)&&decide (dl<=400)&&decide (m=0))):=hid (by unfold rightB;simp only;rw[if_neg h1,if_neg h2,if_pos h3,av]);have bF:=hid al;have bf:=hid av;have bK:(dl:Int)<=9223372036854775807:=by omega
    clear hS al av h1 h2 h3 hd;go_enter Tryz.func87,Tryz.ntmps87;repeat (first|go_skip|go_guarded|go_step|go_upon)
    go_loop [3] (fun s3=>∃ j:Nat,s3=.int .i64 j/\j<=dl/\(d.take j).contains 0=false) (fun s3=>dl-(RowKit.intOf s3).toNat)
    case atStart=>exact⟨0,rfl,Nat.zero_le _,rfl⟩
    case round =>
     obtain⟨j,rfl,hj,hc⟩:=hrel;have HC:=hid hc;clear hc;by_cases hlt:j<dl
     ·have bc:(j:Int)<dl:=by omega
      obtain⟨x,hx⟩:∃ x,d[j]?=some x:=⟨d[j]'(by rw[bf.out];exact hlt),getElem?_eq_getElem _⟩;obtain⟨xn,aG,bO,i0⟩:=byte_at S j (by omega) j rfl;rw[bF.out,List.getD_eq_getElem?_getD,hx,Option.getD_some]at aG;by_cases h0:x=0
      ·have bI:((xn:Int)==0)=true:=by rw[<- aG,h0];rfl
       have HB:Hid (rightB ⟨p,k,d,m⟩=false):=hid (by
        have h4:d.contains 0=true:=by
         have:=mem_of_getElem? hx;rw[h0]at this;simpa using this
        rw[HR.out,h4]
        simp)
       clear hx aG h0;repeat (first|go_skip|go_guarded|go_step|go_upon)
       go_ret;exact⟨by rw[HB.out];rfl,B0.out⟩
      ·have bI:((xn:Int)==0)=false:=by
        simp only[beq_eq_false_iff_ne];intro e;exact h0 (UInt8.toNat_inj.1 (by rw[aG];show xn=0;omega))
       have aE:Hid ((d.take (j+1)).contains 0=false):=hid (by rw[contains_take hx HC.out];simp[h0]);clear hx aG h0;repeat (first|go_skip|go_guarded|go_step|go_upon)
       exact⟨⟨j+1,by go_num,by omega,aE.out⟩,by simp[RowKit.intOf];omega⟩
     ·have bc:¬(j:Int)<dl:=by omega
      have aL:Hid (rightB ⟨p,k,d,m⟩=(decide (1<=dl)&&decide (dl<=400)&&decide (m=0))):=hid (by
       have:=HC.out;rw[take_of_length_le (by rw[bf.out];omega)]at this;rw[HR.out,this]
       simp)
      clear HR;by_cases a1:1<=dl
      ·have b1:(1:Int)<=dl:=by omega
       by_cases a2:dl<=400
       ·have b2:(dl:Int)<=400:=by omega
        by_cases a3:m=0
        ·have b3:(m==0)=true:=by simp[a3]
         have HB:Hid (rightB ⟨p,k,d,m⟩=true):=hid (by rw[aL.out,decide_eq_true a1,decide_eq_true a2,decide_eq_true a3];rfl);clear a1 a2 a3 hlt;repeat (first|go_skip|go_guarded|go_step|go_upon)
         go_ret;exact⟨by rw[HB.out];rfl,B0.out⟩
        ·have b3:(m==0)=false:=by simp[a3]
         have HB:Hid (rightB ⟨p,k,d,m⟩=false):=hid (by rw[aL.out,decide_eq_false a3];simp);clear a1 a2 a3 hlt;repeat (first|go_skip|go_guarded|go_step|go_upon)
         go_ret;exact⟨by rw[HB.out];rfl,B0.out⟩
       ·have b2:¬(dl:Int)<=400:=by omega
        have HB:Hid (rightB ⟨p,k,d,m⟩=false):=hid (by rw[aL.out,decide_eq_false a2];simp);clear a1 a2 hlt;repeat (first|go_skip|go_guarded|go_step|go_upon)
        go_ret;exact⟨by rw[HB.out];rfl,B0.out⟩
      ·have b1:¬(1:Int)<=dl:=by omega
       have HB:Hid (rightB ⟨p,k,d,m⟩=false):=hid (by rw[aL.out,decide_eq_false a1];simp);clear a1 hlt;repeat (first|go_skip|go_guarded|go_step|go_upon)
       go_ret;exact⟨by rw[HB.out];rfl,B0.out⟩
   ·have k3:(k==3)=false:=by simp[h3]
    have HB:Hid (rightB ⟨p,k,d,m⟩=false):=hid (by unfold rightB;simp only;rw[if_neg h1,if_neg h2,if_neg h3]);clear hS al av hd h1 h2 h3;go_enter Tryz.func87,Tryz.ntmps87;repeat (first|go_skip|go_guarded|go_step|go_upon)
    go_ret;exact⟨by rw[HB.out];rfl,B0.out⟩
end TR
end
section
open Go.RowKit Go.Lib Go.BigFrame
namespace TR
open OM TP TM
def FindSays(ts:List Nd)(p:List UInt8)(z:Int):Prop :=
 (∃(k:Nat) (n:Nd),z=k/\ts[k]?=some n/\n.path=p/\∀(j:Nat) (m:Nd),j<k->ts[j]?=some m->m.path≠p)\/(z=-1/\∀ n∈ts,n.path≠p)
theorem find_says{ts:List Nd}{p:List UInt8}{z:Int}(h:FindSays ts p z):(∃(k:Nat) (n:Nd),z=k/\ts[k]?=some n/\findN ts p=some n)\/(z=-1/\findN ts p=none):=by
 rcases h with ⟨k,n,rfl,h1,h2,h3⟩|⟨rfl,h⟩
 ·refine .inl ⟨k,n,rfl,h1,?_⟩;unfold findN;rw[List.find?_eq_some_iff_append];have hk:=(List.getElem?_eq_some_iff.1 h1).1;have hn:=(List.getElem?_eq_some_iff.1 h1).2;refine⟨by simpa using h2,ts.take k,ts.drop (k+1),?_,fun m hm=>?_⟩
  ·rw[<- hn,← List.drop_eq_getElem_cons hk,List.take_append_drop]
  ·obtain⟨j,hj,e⟩:=List.getElem_of_mem hm;rw[List.length_take]at hj;have:=h3 j m (by omega) (by rw[<- e,List.getElem_take];exact getElem?_eq_getElem _);simpa using this
 ·refine .inr ⟨rfl,?_⟩;unfold findN;rw[List.find?_eq_none];intro n hn;simpa using h n hn
theorem rfind_any(ao:Option Addr)(cap:Nat)(ts:List Nd)(p:List UInt8)(w:World)(h:LayN w ao ts)(hl:ts.length<=maxLen) :
  Calls Tryz.prog 113 #[.slice ao ts.length cap,txt p] w fun r w'=>∃ z,r=.returned (.int .i64 z)/\FindSays ts p z/\Below w.heap.size w w':=by
 obtain⟨n,hn⟩:∃ n,ts.length=n:=⟨_,rfl⟩;have HN:=hid hn;have HL:=hid h;unfold maxLen at hl;rw[hn]at hl ⊢;have aB:(n:Int)<=9223372036854775807:=by omega
 unfold txt;obtain⟨S,hS⟩:∃ S:ByteArray,⟨p.toArray⟩=S:=⟨_,rfl⟩;have HS:Hid (S.data.toList=p):=hid (by rw[<- hS]);rw[hS];clear h hn hS hl;go_enter Tryz.func113,Tryz.ntmps113;repeat (first|go_skip|go_guarded|go_step|go_upon)
 go_loopw [5] (fun s3 wr=>∃ k:Nat,s3=.int .i64 k/\k<=n/\(∀(j:Nat) (m:Nd),j<k->ts[j]?=some m->m.path≠p)/\Below w.heap.size w wr) (fun s3 _=>n-(RowKit.intOf s3).toNat)
 case atStart=>exact⟨0,rfl,Nat.zero_le _,fun j m hj=>by omega,Below.refl _ _⟩
 case round =>
  obtain⟨k,rfl,hk,bd,hb⟩:=hrel;have aS:=hid bd;have HB:=hid hb;have az:=hid (HL.out.below hb);clear bd hb;by_cases hlt:k<n
  ·have ay:(k:Int)<n:=by omega
   obtain⟨g,o,rfl,_,hc⟩:=az.out (by rw[HN.out];omega);obtain⟨x,hx⟩:∃ x,ts[k]?=some x:=⟨ts[k]'(by rw[HN.out];exact hlt),getElem?_eq_getElem _⟩;have c0:=(hc k x hx).p;unfold txt at c0;obtain⟨X,hX⟩:∃ X:ByteArray,⟨x.path.toArray⟩=X:=⟨_,rfl⟩;rw[hX]at c0;have aa:X.data.toList=x.path:=by rw[<- hX]
   by_cases he:x.path=p
   ·have hb:(X.toList==S.toList)=true:=by rw[toList_data,toList_data,aa,HS.out,he];simp
    have HF:Hid (FindSays ts p k):=hid (.inl ⟨k,x,rfl,hx,he,aS.out⟩);clear hc hx hX aa he;repeat (first|go_skip|go_guarded|go_step|go_upon)
    go_ret;exact⟨_,rfl,HF.out,HB.out⟩
   ·have hb:(X.toList==S.toList)=false:=by rw[toList_data,toList_data,aa,HS.out];simpa using he
    have aU:Hid (∀(j:Nat) (m:Nd),j<k+1->ts[j]?=some m->m.path≠p):=hid (fun j m hj hm=>by
     by_cases hjk:j=k
     ·rw[hjk,hx]at hm;cases hm;exact he
     ·exact aS.out j m (by omega) hm)
    clear hc hx hX aa he;repeat (first|go_skip|go_guarded|go_step|go_upon)
    exact⟨⟨k+1,by go_num,by omega,aU.out,HB.out⟩,by simp[RowKit.intOf];omega⟩
  ·have ay:¬(k:Int)<n:=by omega
   have HF:Hid (FindSays ts p (-1)):=hid (.inr ⟨rfl,fun m hm=>by
    obtain⟨j,hj,e⟩:=List.getElem_of_mem hm
    exact aS.out j m (by have:=HN.out;omega) (by rw[<- e];exact getElem?_eq_getElem _)⟩)
   clear hlt;repeat (first|go_skip|go_guarded|go_step|go_upon)
   go_ret;exact⟨_,rfl,HF.out,HB.out⟩
theorem rdir_any(ao:Option Addr)(cap:Nat)(ts:List Nd)(p:List UInt8)(w:World)(h:LayN w ao ts)(hl:ts.length<=maxLen) :
  Calls Tryz.prog 88 #[.slice ao ts.length cap,txt p] w fun r w'=>r=.returned (.bool (dirB ts p))/\Below w.heap.size w w':=by
 have cF:=rfind_any ao cap ts p w h hl;obtain⟨n,hn⟩:∃ n,ts.length=n:=⟨_,rfl⟩;have HN:=hid hn;have HL:=hid h;unfold maxLen at hl;rw[hn]at hl cF ⊢;have aB:(n:Int)<=9223372036854775807:=by omega
 unfold txt at cF ⊢;obtain⟨S,hS⟩:∃ S:ByteArray,⟨p.toArray⟩=S:=⟨_,rfl⟩;have HS:Hid (S.data.toList=p):=hid (by rw[<- hS]);rw[hS]at cF ⊢;have CF:=hid cF;clear h hn hS hl cF;by_cases h0:p=[]
 ·have hb:S.toList.isEmpty=true:=by rw[toList_data,HS.out,h0];rfl
  have HB:Hid (dirB ts p=true):=hid (by unfold dirB;rw[decide_eq_true h0];rfl);clear h0;go_enter Tryz.func88,Tryz.ntmps88;repeat (first|go_skip|go_guarded|go_step|go_upon)
  go_ret;exact⟨by rw[HB.out];rfl,Below.refl _ _⟩
 ·have hb:S.toList.isEmpty=false:=by rw[toList_data,HS.out];simpa using h0
  have HD:Hid (dirB ts p=(match findN ts p with|some n=>decide (n.kind=2)|none=>false)):=hid (by unfold dirB;rw[decide_eq_false h0];rfl);clear h0;go_enter Tryz.func88,Tryz.ntmps88;repeat (first|go_skip|go_guarded|go_step|go_upon)
  refine CF.out.mono ?_;rintro r w1 ⟨z,rfl,hs,ax⟩;simp only[];have bp:=hid ax;have bH:=hid (HL.out.below ax);rcases find_says hs with ⟨k,x,rfl,hx,hf⟩|⟨rfl,hf⟩
  ·have b0:=(List.getElem?_eq_some_iff.1 hx).1;have ay:(k:Int)<n:=by have:=HN.out;omega
   obtain⟨g,o,rfl,_,hc⟩:=bH.out (by omega);have c1:=(hc k x hx).k;obtain⟨b,bB⟩:∃ b,(x.kind==2)=b:=⟨_,rfl⟩;have HB:Hid (dirB ts p=b):=hid (by rw[HD.out,hf,← bB];simp only;rw[Bool.eq_iff_iff];simp);clear hs ax hf hx hc b0;repeat (first|go_skip|go_guarded|go_step|go_upon)
   go_ret;exact⟨by rw[HB.out];rfl,bp.out⟩
  ·have HB:Hid (dirB ts p=false):=hid (by rw[HD.out,hf]);clear hs ax hf;repeat (first|go_skip|go_guarded|go_step|go_upon)
   go_ret;exact⟨by rw[HB.out];rfl,bp.out⟩
end TR
end
section
open Go.RowKit Go.Lib Go.BigFrame
namespace TP
open NP
theorem chain_snoc:∀(l:List Nd) (y x:Nd),chainB (l++[y,x])=(chainB (l++[y])&&decide (ordL y.path x.path<0))
 | [],y,x=>by simp[chainB]
 | [a],y,x=>by simp[chainB,Bool.and_assoc]
 | a::b::l,y,x=>by
  have ih:=chain_snoc (b::l) y x;simp only[List.cons_append]at ih ⊢;rw[chainB,ih,chainB,Bool.and_assoc]
theorem chain_pre{a b:List Nd}(h:chainB (a++b)=true):chainB a=true:=(chain_iff a).2 ((List.pairwise_append.1 ((chain_iff (a++b)).1 h)).1)
theorem take_two{l:List Nd}{k:Nat}{y x:Nd}(h1:l[k]?=some y)(h2:l[k+1]?=some x):l.take (k+2)=l.take k++[y,x]/\l.take (k+1)=l.take k++[y]:=by
 have e1:l.take (k+1)=l.take k++[y]:=by rw[take_add_one,h1];rfl
 refine⟨?_,e1⟩;rw[show k+2=k+1+1 from rfl,take_add_one,h2,e1];simp
end TP
namespace TR
open OM TP TM
theorem reg_of{f:FuncId}{args:Array Value}{v:Value}{w:World}(h:∀ W,Below w.heap.size w W->Calls Tryz.prog f args W fun e w'=>e=.returned v/\Below W.heap.size W w')(d:Nat)(os:Array Obj) :
  Calls Tryz.prog f args (Go.Sort.grow (redrawn w d) os) fun e w''=>e=.returned v/\∃ p:Regrown,w''=Go.Sort.grow (redrawn w p.d) p.os:=Calls.regrown_of (h _ (below_regrown w d os))
def Small(ts:List Nd):Prop:=∀ n∈ts,n.path.length<=1048576/\n.data.length<=1048576
def checkE(ts:List Nd):Nat:=if treeB ts=true then 0 else 60
theorem bad_node{ts:List Nd}{x:Nd}(hx:x∈ts)(h:nodeB ts x=false):checkE ts=60:=by
 unfold checkE treeB;rw[if_neg];simp only[Bool.and_eq_true,not_and];intro ⟨_,h1⟩;rw[List.all_eq_true]at h1;rw[h1 x hx]at h;cases h
theorem bad_chain{ts:List Nd}{k:Nat}(h:chainB (ts.take k)=false):checkE ts=60:=by
 unfold checkE treeB;rw[if_neg];simp only[Bool.and_eq_true,not_and];intro _ h1;have:=chain_pre (a:=ts.take k) (b:=ts.drop k) (by rw[List.take_append_drop];exact h1);rw[this]at h;cases h
theorem rcheck_any(ao:Option Addr)(cap:Nat)(ts:List Nd)(w:World)(h:LayN w ao ts)(hs:Small ts)(hl:ts.length<=maxLen) :
  Calls Tryz.prog 24 #[.slice ao ts.length cap] w fun r w'=>r=.returned (.int .i64 (checkE ts:Nat))/\Below w.heap.size w w':=by
 obtain⟨n,hn⟩:∃ n,ts.length=n:=⟨_,rfl⟩;have HN:=hid hn;have HL:=hid h;have aM:=hid hs;unfold maxLen at hl;rw[hn]at hl ⊢;have aB:(n:Int)<=9223372036854775807:=by omega
 by_cases h0:n<=1000
 ·have bt:¬(1000:Int)<n:=by omega
  have cD:∀ W p,LayN W ao ts->Calls Tryz.prog 88 #[.slice ao n cap,txt p] W fun r w'=>r=.returned (.bool (dirB ts p))/\Below W.heap.size W w':=fun W p hW=>by
   have:=rdir_any ao cap ts p W hW (by unfold maxLen;omega);rw[hn]at this;exact this
  have CD:=hid cD;clear h hn hl hs cD;go_enter Tryz.func24,Tryz.ntmps24;repeat (first|go_skip|go_guarded|go_step|go_upon)
  go_loopw [3] (fun s3 wr=>∃ k:Nat,s3=.int .i64 k/\k<=n/\(∀ m∈ts.take k,nodeB ts m=true)/\chainB (ts.take k)=true/\Below w.heap.size w wr) (fun s3 _=>n-(RowKit.intOf s3).toNat)
  case atStart=>exact⟨0,rfl,Nat.zero_le _,fun m hm=>by simp at hm,rfl,Below.refl _ _⟩
  case round =>
   obtain⟨k,rfl,hk,ha,hc,hb⟩:=hrel;have HA:=hid ha;have HC:=hid hc;have HB:=hid hb;have aq:=hb.size;have az:=hid (HL.out.below hb);clear ha hc hb;by_cases hlt:k<n
   ·have ay:(k:Int)<n:=by omega
    obtain⟨g,o,rfl,hg,ab⟩:=az.out (by rw[HN.out];omega);obtain⟨x,hx⟩:∃ x,ts[k]?=some x:=⟨ts[k]'(by rw[HN.out];exact hlt),getElem?_eq_getElem _⟩;have ac:=mem_of_getElem? hx;obtain⟨ag,au⟩:=aM.out x ac;have aH:=hid (ab k x hx);have bz:=hid ab;have c0:=aH.out.p;unfold txt at c0;obtain⟨X,hX⟩:∃ X:ByteArray,⟨x.path.toArray⟩=X:=⟨_,rfl⟩;have aa:X.data.toList=x.path:=by rw[<- hX]
    obtain⟨D,hD⟩:∃ D:ByteArray,⟨x.data.toArray⟩=D:=⟨_,rfl⟩;rw[hX]at c0;have aw:X.size<=1048576:=by rw[size_eq,aa];exact ag
    obtain⟨kx,ah⟩:∃ kx,x.kind=kx:=⟨_,rfl⟩;obtain⟨mx,ai⟩:∃ mx,x.mode=mx:=⟨_,rfl⟩
    have cells:∀ W,Below wr.heap.size wr W->W.cell? ⟨g,o+k*4,none⟩=some (.string X)/\W.cell? ⟨g,o+k*4+1,none⟩=some (.int .i64 kx)/\W.cell? ⟨g,o+k*4+2,none⟩=some (.string D)/\W.cell? ⟨g,o+k*4+3,none⟩=some (.int .i64 mx):=fun W hW=>by
     have:=aH.out.below hg hW;have p:=this.p;have d:=this.d;unfold txt at p d;rw[hX]at p;rw[hD]at d;exact⟨p,by rw[<- ah];exact this.k,d,by rw[<- ai];exact this.m⟩
    have c1:∀ W,Calls Tryz.prog 86 #[.string X] W fun r w'=>r=.returned (.bool (NP.pathL x.path))/\Below W.heap.size W w':=fun W=>by
     have:=R1.RQ.rpath_any X W aw;rw[aa]at this;exact this
    have c2:∀ W,Calls Tryz.prog 87 #[.agg #[.string X,.int .i64 kx,.string D,.int .i64 mx]] W fun r w'=>r=.returned (.bool (rightB x))/\Below W.heap.size W w':=fun W=>by
     have:=rright_any x W (by unfold maxLen;omega);unfold ndVal txt at this;rw[hX,hD,ah,ai]at this;exact this
    have c3:∀ W,Calls Tryz.prog 89 #[.string X] W fun r w'=>r=.returned (txt (NP.parentL x.path))/\Below W.heap.size W w':=fun W=>by
     refine(R1.RT.rparent_any X W aw).mono ?_;rintro r w' ⟨t,rfl,ht,hb⟩;rw[aa]at ht;exact⟨by rw[<- ht,txt_data],hb⟩
    obtain⟨P,hP⟩:∃ P:ByteArray,⟨(NP.parentL x.path).toArray⟩=P:=⟨_,rfl⟩
    have c4:∀ W,LayN W (some ⟨g,o,none⟩) ts->Calls Tryz.prog 88 #[.slice (some ⟨g,o,none⟩) n cap,.string P] W fun r w'=>r=.returned (.bool (dirB ts (NP.parentL x.path)))/\Below W.heap.size W w':=fun W hW=>by
     have:=CD.out W (NP.parentL x.path) hW;unfold txt at this;rw[hP]at this;exact this
    unfold txt at c3;rw[hP]at c3;obtain⟨b1,ax⟩:∃ b,NP.pathL x.path=b:=⟨_,rfl⟩;obtain⟨b2,aj⟩:∃ b,rightB x=b:=⟨_,rfl⟩;obtain⟨b3,aV⟩:∃ b,dirB ts (NP.parentL x.path)=b:=⟨_,rfl⟩;have aN:Hid (nodeB ts x=(b1&&b2&&b3)):=hid (by unfold nodeB;rw[ax,aj,aV]);rw[ax]at c1;rw[aj]at c2;rw[aV]at c4;have C1:=hid c1;have C2:=hid c2;have C3:=hid c3;have C4:=hid c4;have CL:=hid cells;have HX:=hid hx;have bC:=hid aa;have aY:=hid ac;clear c1 c2 c3 c4 cells hX aa hD ah ai ax aj aV hP hx ac ag au ab
    cases b1 with
    | false =>
     have HF:Hid (checkE ts=60):=hid (bad_node aY.out (by rw[aN.out];rfl));repeat (first|(go_at_call 86;refine(C1.out _).mono ?_;rintro r w1 ⟨rfl,hb⟩;simp only[];have B1:=hid (Below.trans HB.out (hb.mono aq));clear hb)|go_skip|go_guarded|go_step|go_upon)
     go_ret;exact⟨by rw[HF.out];rfl,B1.out⟩
    | true =>
     cases b2 with
     | false =>
      have HF:Hid (checkE ts=60):=hid (bad_node aY.out (by rw[aN.out];rfl));repeat (first|(go_at_call 86;refine(C1.out _).mono ?_;rintro r w1 ⟨rfl,hb⟩;simp only[];obtain⟨e0,e1,e2,e3⟩:=CL.out w1 hb;have W1:=hid hb;clear hb)|(go_at_call 87;refine(C2.out _).mono ?_;rintro r w2 ⟨rfl,hb⟩;simp only[];obtain⟨e4,e5,e6,e7⟩:=CL.out w2 (Below.trans W1.out (hb.mono W1.out.size));have W2:=hid (Below.trans W1.out (hb.mono W1.out.size));clear hb)|go_skip|go_guarded|go_step|go_upon)
      go_ret;exact⟨by rw[HF.out];rfl,Below.trans HB.out (W2.out.mono aq)⟩
     | true =>
      cases b3 with
      | false =>
       have HF:Hid (checkE ts=60):=hid (bad_node aY.out (by rw[aN.out];rfl));repeat (first|(go_at_call 86;refine(C1.out _).mono ?_;rintro r w1 ⟨rfl,hb⟩;simp only[];obtain⟨e0,e1,e2,e3⟩:=CL.out w1 hb;have W1:=hid hb;clear hb)|(go_at_call 87;refine(C2.out _).mono ?_;rintro r w2 ⟨rfl,hb⟩;simp only[];obtain⟨e4,e5,e6,e7⟩:=CL.out w2 (Below.trans W1.out (hb.mono W1.out.size));have W2:=hid (Below.trans W1.out (hb.mono W1.out.size));clear hb)|(go_at_call 89;refine OM.onB (C3.out _) W2 ?_;intro w3 W3;simp only[])|(go_at_call 88;refine(C4.out _ (az.out.below W3.out)).mono ?_;rintro r w4 ⟨rfl,hb⟩;simp only[];obtain⟨e8,e9,aO,aK⟩:=CL.out w4 (Below.trans W3.out (hb.mono W3.out.size));have W4:=hid (Below.trans W3.out (hb.mono W3.out.size));clear hb)|go_skip|go_guarded|go_step|go_upon)
       go_ret;exact⟨by rw[HF.out];rfl,Below.trans HB.out (W4.out.mono aq)⟩
      | true =>
       have be:Hid (∀ m∈ts.take (k+1),nodeB ts m=true):=hid (fun m hm=>by
        rw[take_add_one,HX.out]at hm;rcases List.mem_append.1 hm with hm|hm
        ·exact HA.out m hm
        ·simp at hm;rw[hm,aN.out];rfl)
       by_cases hk0:k=0
       ·have a6:¬ 0<k:=by omega
        have aZ:decide (0<k)=false:=decide_eq_false a6;have aE:Hid (chainB (ts.take (k+1))=true):=hid (by rw[take_add_one,HX.out,hk0];rfl);clear hk0;repeat (first|(go_at_call 86;refine(C1.out _).mono ?_;rintro r w1 ⟨rfl,hb⟩;simp only[];obtain⟨e0,e1,e2,e3⟩:=CL.out w1 hb;have W1:=hid hb;clear hb)|(go_at_call 87;refine(C2.out _).mono ?_;rintro r w2 ⟨rfl,hb⟩;simp only[];obtain⟨e4,e5,e6,e7⟩:=CL.out w2 (Below.trans W1.out (hb.mono W1.out.size));have W2:=hid (Below.trans W1.out (hb.mono W1.out.size));clear hb)|(go_at_call 89;refine OM.onB (C3.out _) W2 ?_;intro w3 W3;simp only[])|(go_at_call 88;refine(C4.out _ (az.out.below W3.out)).mono ?_;rintro r w4 ⟨rfl,hb⟩;simp only[];obtain⟨e8,e9,aO,aK⟩:=CL.out w4 (Below.trans W3.out (hb.mono W3.out.size));have W4:=hid (Below.trans W3.out (hb.mono W3.out.size));clear hb)|go_skip|go_guarded|go_step|go_upon)
        clear e0 e1 e2 e3 e4 e5 e6 e7 e8 e9 aO aK;with_reducible refine wp_region_quiet_below (by kernel_rfl) (by kernel_rfl) ?_
        repeat (go_big_quiet_step (fail))
        refine wpQuiet_nil ?_;intro _ hw';obtain⟨⟨dq,a5⟩,a7⟩:=hw';subst a7;have W5:Hid (Below wr.heap.size wr (Go.Sort.grow (redrawn w4 dq) a5)):=hid (Below.trans W4.out ((below_regrown w4 dq a5).mono W4.out.size));generalize Go.Sort.grow (redrawn w4 dq) a5=w5 at W5 ⊢;repeat (first|go_skip|go_guarded|go_step|go_upon)
        exact⟨⟨k+1,by go_num,by omega,be.out,aE.out,Below.trans HB.out (W5.out.mono aq)⟩,by simp[RowKit.intOf];omega⟩
       ·obtain⟨j,hj⟩:∃ j,k=j+1:=⟨k-1,by omega⟩;have bc:(k:Int)-1=j:=by omega
        have bL:(j:Int)<n:=by omega
        have a6:0<k:=by omega
        have aZ:decide (0<k)=true:=decide_eq_true a6;obtain⟨y,hy⟩:∃ y,ts[j]?=some y:=⟨ts[j]'(by rw[HN.out];omega),getElem?_eq_getElem _⟩;obtain⟨Y,hY⟩:∃ Y:ByteArray,⟨y.path.toArray⟩=Y:=⟨_,rfl⟩;have aW:Y.data.toList=y.path:=by rw[<- hY]
        have bb:Y.size<=1048576:=by rw[size_eq,aW];exact(aM.out y (mem_of_getElem? hy)).1
        have CY:Hid (∀ W,Below wr.heap.size wr W->W.cell? ⟨g,o+j*4,none⟩=some (.string Y)):=hid (fun W hW=>by
         have:=((bz.out j y hy).below hg hW).p;unfold txt at this;rw[hY]at this
         exact this)
        obtain⟨z,hz⟩:∃ z,NP.ordL y.path x.path=z:=⟨_,rfl⟩
        have c5:∀ W,Calls Tryz.prog 90 #[.string Y,.string X] W fun r w'=>r=.returned (.int .i64 z)/\Below W.heap.size W w':=fun W=>by
         refine(R1.RO.rorder_any Y X W bb aw).mono ?_;rintro r w' ⟨rfl,hb⟩;rw[aW,bC.out,hz];exact⟨rfl,hb⟩
        have C5:=hid c5
        have bl:Hid (chainB (ts.take (k+1))=decide (z<0)):=hid (by
         have bg:=HX.out;rw[hj]at bg ⊢;obtain⟨t1,t2⟩:=take_two hy bg;have h1:=HC.out;rw[hj,t2]at h1;rw[t1,chain_snoc,h1,hz]
         rfl)
        have bJ:(k:Int)<=1000:=by omega
        clear c5 hY aW bb hy hz hj hk0;repeat (first|(go_at_call 86;refine(C1.out _).mono ?_;rintro r w1 ⟨rfl,hb⟩;simp only[];obtain⟨e0,e1,e2,e3⟩:=CL.out w1 hb;have W1:=hid hb;clear hb)|(go_at_call 87;refine(C2.out _).mono ?_;rintro r w2 ⟨rfl,hb⟩;simp only[];obtain⟨e4,e5,e6,e7⟩:=CL.out w2 (Below.trans W1.out (hb.mono W1.out.size));have W2:=hid (Below.trans W1.out (hb.mono W1.out.size));clear hb)|(go_at_call 89;refine OM.onB (C3.out _) W2 ?_;intro w3 W3;simp only[])|(go_at_call 88;refine(C4.out _ (az.out.below W3.out)).mono ?_;rintro r w4 ⟨rfl,hb⟩;simp only[];obtain⟨e8,e9,aO,aK⟩:=CL.out w4 (Below.trans W3.out (hb.mono W3.out.size));have W4:=hid (Below.trans W3.out (hb.mono W3.out.size));clear hb)|go_skip|go_guarded|go_step|go_upon)
        have y1:=CY.out w4 W4.out;have f8:=cell_regrown e8;have g1:=cell_regrown y1;have D5:=hid (reg_of (w:=w4) (fun W _=>C5.out W));clear e0 e1 e2 e3 e4 e5 e6 e7 e9 aO aK;with_reducible refine wp_region_quiet_below (by kernel_rfl) (by kernel_rfl) ?_
        repeat (go_big_quiet_step (first|(go_at_call 90;exact D5.out _ _)))
        refine wpQuiet_nil ?_;intro _ hw';obtain⟨⟨dq,a5⟩,a7⟩:=hw';subst a7;have W5:Hid (Below wr.heap.size wr (Go.Sort.grow (redrawn w4 dq) a5)):=hid (Below.trans W4.out ((below_regrown w4 dq a5).mono W4.out.size));clear f8 g1 e8 y1;generalize Go.Sort.grow (redrawn w4 dq) a5=w5 at W5 ⊢;by_cases aQ:z<0
        ·have aT:¬ 0<=z:=by omega
         have aE:Hid (chainB (ts.take (k+1))=true):=hid (by rw[bl.out,decide_eq_true aQ]);repeat (first|go_skip|go_guarded|go_step|go_upon)
         exact⟨⟨k+1,by go_num,by omega,be.out,aE.out,Below.trans HB.out (W5.out.mono aq)⟩,by simp[RowKit.intOf];omega⟩
        ·have aT:0<=z:=by omega
         have HF:Hid (checkE ts=60):=hid (bad_chain (k:=k+1) (by rw[bl.out,decide_eq_false aQ]));repeat (first|go_skip|go_guarded|go_step|go_upon)
         go_ret;exact⟨by rw[HF.out];rfl,Below.trans HB.out (W5.out.mono aq)⟩
   ·have ay:¬(k:Int)<n:=by omega
    have HF:Hid (checkE ts=0):=hid (by
     have et:ts.take k=ts:=take_of_length_le (by rw[HN.out];omega);have h1:=HA.out;have h2:=HC.out;rw[et]at h1 h2;unfold checkE treeB;rw[HN.out,decide_eq_true h0,List.all_eq_true.2 h1,h2]
     rfl)
    clear hlt;repeat (first|go_skip|go_guarded|go_step|go_upon)
    go_ret;exact⟨by rw[HF.out];rfl,HB.out⟩
 ·have bt:(1000:Int)<n:=by omega
  have HB:Hid (checkE ts=60):=hid (by unfold checkE treeB;rw[hn,decide_eq_false h0];rfl);clear h hn hl hs h0;go_enter Tryz.func24,Tryz.ntmps24;repeat (first|go_skip|go_guarded|go_step|go_upon)
  go_ret;exact⟨by rw[HB.out];rfl,Below.refl _ _⟩
end TR
end
section
open Go.RowKit Go.Lib Go.BigFrame
namespace TR
open OM TP TM
theorem eq_nd(a b:Nd)(W:World):(Op.equalIn 10000 45 (ndVal a) (ndVal b)).run Tryz.prog W=.ok (decide (a=b)) W:=by
 unfold ndVal;rw[run_equalIn_struct W 9999 45 _ _ (by kernel_rfl) (by kernel_rfl)];have names:(Tryz.prog.fieldsOf 45).toList.map (fun f=>(f.name,f.type,f.offset))=[("Path",9,0),("Kind",3,1),("Data",9,2),("Mode",3,3)]:=by kernel_rfl
 obtain⟨f0,f1,f2,f3,e⟩:∃ f0 f1 f2 f3,(Tryz.prog.fieldsOf 45).toList=[f0,f1,f2,f3]:=by
  have hl:=congrArg List.length names;rw[List.length_map]at hl
  match h:(Tryz.prog.fieldsOf 45).toList,hl with
  | [f0,f1,f2,f3],_=>exact⟨f0,f1,f2,f3,rfl⟩
 rw[e]at names;simp only[List.map_cons,List.map_nil,List.cons.injEq,Prod.mk.injEq,and_true]at names;obtain⟨⟨n0,t0,o0⟩,⟨n1,t1,o1⟩,⟨n2,t2,o2⟩,n3,t3,o3⟩:=names;rw[e];unfold txt;have s1:=str_eq a.path b.path;have s2:=str_eq a.data b.data;obtain⟨p,k,d,m⟩:=a;obtain⟨p',k',d',m'⟩:=b;simp only at s1 s2 ⊢;simp[Op.eqFields,go_sem,n0,n1,n2,n3,t0,t1,t2,t3,o0,o1,o2,o3,Tryz.underlying9,Tryz.underlying3];by_cases h1:p=p'<;>by_cases h2:k=k'<;>by_cases h3:d=d'<;>by_cases h4:m=m'<;>simp[h1,h2,h3,h4]
theorem rsame_any(ao bo:Option Addr)(ca cb:Nat)(xs ys:List Nd)(w:World)(ha:LayN w ao xs)(hb:LayN w bo ys)(la:xs.length<=maxLen)(lb:ys.length<=maxLen) :
  Calls Tryz.prog 22 #[.slice ao xs.length ca,.slice bo ys.length cb] w fun r w'=>r=.returned (.bool (decide (xs=ys)))/\Below w.heap.size w w':=by
 obtain⟨n,hn⟩:∃ n,xs.length=n:=⟨_,rfl⟩;obtain⟨m,hm⟩:∃ m,ys.length=m:=⟨_,rfl⟩;have HN:=hid hn;have HM:=hid hm;have HA:=hid ha;have HB:=hid hb;unfold maxLen at la lb;rw[hn]at la ⊢;rw[hm]at lb ⊢;have aB:(n:Int)<=9223372036854775807:=by omega
 clear ha hb;by_cases hnm:n=m
 ·subst hnm;clear hn hm la lb;go_enter Tryz.func22,Tryz.ntmps22;repeat (first|go_skip|go_guarded|go_step|go_upon)
  go_loopw [5] (fun s3 wr=>∃ k:Nat,s3=.int .i64 k/\k<=n/\xs.take k=ys.take k/\Below w.heap.size w wr) (fun s3 _=>n-(RowKit.intOf s3).toNat)
  case atStart=>exact⟨0,rfl,Nat.zero_le _,rfl,Below.refl _ _⟩
  case round =>
   obtain⟨k,rfl,hk,ht,aR⟩:=hrel;have HT:=hid ht;have HW:=hid aR;have bD:=hid (HA.out.below aR);have bs:=hid (HB.out.below aR);clear ht aR;by_cases hlt:k<n
   ·have ay:(k:Int)<n:=by omega
    obtain⟨g1,o1,rfl,_,ba⟩:=bD.out (by rw[HN.out];omega);obtain⟨g2,o2,rfl,_,aX⟩:=bs.out (by rw[HM.out];omega);obtain⟨x,hx⟩:∃ x,xs[k]?=some x:=⟨xs[k]'(by rw[HN.out];exact hlt),getElem?_eq_getElem _⟩;obtain⟨y,hy⟩:∃ y,ys[k]?=some y:=⟨ys[k]'(by rw[HM.out];exact hlt),getElem?_eq_getElem _⟩;obtain⟨x0,x1,x2,x3⟩:=ba k x hx;obtain⟨y0,y1,y2,y3⟩:=aX k y hy;have he:=fun W=>eq_nd x y W;unfold ndVal at he;obtain⟨xp,aD⟩:∃ v,txt x.path=v:=⟨_,rfl⟩;obtain⟨xd,aA⟩:∃ v,txt x.data=v:=⟨_,rfl⟩;obtain⟨yp,aF⟩:∃ v,txt y.path=v:=⟨_,rfl⟩;obtain⟨yd,aJ⟩:∃ v,txt y.data=v:=⟨_,rfl⟩;obtain⟨S1,e1⟩:∃ S,xp=.string S:=⟨_,aD.symm⟩;obtain⟨S2,e2⟩:∃ S,xd=.string S:=⟨_,aA.symm⟩;obtain⟨S3,e3⟩:∃ S,yp=.string S:=⟨_,aF.symm⟩;obtain⟨S4,e4⟩:∃ S,yd=.string S:=⟨_,aJ.symm⟩;rw[aD,aA,aF,aJ,e1,e2,e3,e4]at he;rw[aD,e1]at x0;rw[aA,e2]at x2;rw[aF,e3]at y0;rw[aJ,e4]at y2;by_cases hxy:x=y
    ·have bw:Hid (xs.take (k+1)=ys.take (k+1)):=hid (by rw[take_add_one,take_add_one,HT.out,hx,hy,hxy]);rw[decide_eq_true hxy]at he;clear ba aX hx hy hxy aD aA aF aJ e1 e2 e3 e4;repeat (first|go_skip|go_guarded|go_step|go_upon)
     go_quiet (fail);rename_i nq;have aC:Hid (Below w.heap.size w (wr.drewN nq)):=hid ⟨HW.out.os,HW.out.tape,HW.out.output,HW.out.size,HW.out.block⟩;clear x0 x1 x2 x3 y0 y1 y2 y3 he;generalize wr.drewN nq=w3 at aC ⊢;repeat (first|go_skip|go_guarded|go_step|go_upon)
     exact⟨⟨k+1,by go_num,by omega,bw.out,aC.out⟩,by simp[RowKit.intOf];omega⟩
    ·have HF:Hid (decide (xs=ys)=false):=hid (by
      rw[decide_eq_false];intro e;rw[e,hy]at hx
      exact hxy (Option.some.inj hx).symm)
     rw[decide_eq_false hxy]at he;clear ba aX hx hy hxy aD aA aF aJ e1 e2 e3 e4;repeat (first|go_skip|go_guarded|go_step|go_upon)
     go_quiet (fail);rename_i nq;have aC:Hid (Below w.heap.size w (wr.drewN nq)):=hid ⟨HW.out.os,HW.out.tape,HW.out.output,HW.out.size,HW.out.block⟩;clear x0 x1 x2 x3 y0 y1 y2 y3 he;generalize wr.drewN nq=w3 at aC ⊢;repeat (first|go_skip|go_guarded|go_step|go_upon)
     go_ret;exact⟨by rw[HF.out];rfl,aC.out⟩
   ·have ay:¬(k:Int)<n:=by omega
    have HF:Hid (decide (xs=ys)=true):=hid (by
     rw[decide_eq_true];have:=HT.out;rw[take_of_length_le (by rw[HN.out];omega),take_of_length_le (by rw[HM.out];omega)]at this
     exact this)
    clear hlt;repeat (first|go_skip|go_guarded|go_step|go_upon)
    go_ret;exact⟨by rw[HF.out];rfl,HW.out⟩
 ·have HF:Hid (decide (xs=ys)=false):=hid (decide_eq_false fun e=>hnm (by rw[<- hn,← hm,e]));have hb:((n:Int)==(m:Int))=false:=by simp;omega
  clear hn hm la lb hnm;go_enter Tryz.func22,Tryz.ntmps22;repeat (first|go_skip|go_guarded|go_step|go_upon)
  go_ret;exact⟨by rw[HF.out];rfl,Below.refl _ _⟩
end TR
end
section
open Go.RowKit Go.Lib Go.BigFrame
namespace TR
open OM TP TM
theorem sl_tail(g o n cap:Nat)(W:World)(h1:1<=n)(hc:cap≠1):(Instr.slice 22 (.slice (some ⟨g,o,none⟩) n cap) (some (.int .i64 1)) none none).run Tryz.prog W=.ok (.slice (some ⟨g,o+4,none⟩) (n-1) (cap-1)) W:=by
 rw[run_slice_l W 22 (some ⟨g,o,none⟩) n cap (show Tryz.prog.underlying 22=some (.slice (Tryz.prog.elem 22)) by kernel_rfl) .i64 1 (by omega) (by omega)]
 have hs:(sizeOf (Tryz.prog.elem 22)).run Tryz.prog W=.ok 4 W:=by
  rw[show Tryz.prog.elem 22=45 by kernel_rfl];simp[go_sem]
 rw[hs];simp only[Result.andThen,sliced];have e:(1:Int).toNat=1:=rfl;rw[e,if_neg hc];simp[Addr.add]
theorem LayN.tail{W:World}{g o:Nat}{x:Nd}{r:List Nd}(h:LayN W (some ⟨g,o,none⟩) (x::r)):LayN W (some ⟨g,o+4,none⟩) r:=fun _=>by
 obtain⟨g',o',e,hg,hc⟩:=h (by simp);cases e;refine⟨g,o+4,rfl,hg,fun k n hk=>?_⟩;have:=hc (k+1) n (by rw[List.getElem?_cons_succ];exact hk);rw[show o+4+k*4=o+(k+1)*4 by omega];exact this
theorem lay_head{W:World}{g o:Nat}{x:Nd}{r:List Nd}(h:LayN W (some ⟨g,o,none⟩) (x::r)):NodeAt W g o x:=by
 obtain⟨g',o',e,hg,hc⟩:=h (by simp);cases e;have:=hc 0 x rfl;rw[Nat.zero_mul,Nat.add_zero]at this;exact this
theorem rrightv_any(ao:Option Addr)(cap:Nat)(v:List Nd)(w:World)(h:LayN w ao v)(hs:Small v)(hl:v.length<=maxLen)(hcap:v.length<=cap) :
  Calls Tryz.prog 242 #[.slice ao v.length cap] w fun r w'=>r=.returned (.bool (rightV v))/\Below w.heap.size w w':=by
 cases v with
 | nil =>
  go_enter Tryz.func242,Tryz.ntmps242;repeat (first|go_skip|go_guarded|go_step|go_upon)
  go_ret;exact⟨rfl,Below.refl _ _⟩
 | cons x r =>
  obtain⟨g,o,rfl,hg,_⟩:=h (by simp);have HL:=hid h;obtain⟨n,hn⟩:∃ n,(x::r).length=n:=⟨_,rfl⟩;have am:r.length+1=n:=by rw[<- hn];rfl
  rw[hn]at hl hcap ⊢;unfold maxLen at hl;have aB:(n:Int)<=9223372036854775807:=by omega
  have bN:((n:Int)==0)=false:=by simp;omega
  have bM:(0:Int)<n:=by omega
  have a4:∀ W,Below w.heap.size w W->NodeAt W g o x:=fun W hW=>lay_head (HL.out.below hW);obtain⟨ag,au⟩:=hs x (List.mem_cons_self ..);obtain⟨X,hX⟩:∃ X:ByteArray,⟨x.path.toArray⟩=X:=⟨_,rfl⟩;have aa:X.data.toList=x.path:=by rw[<- hX]
  obtain⟨D,hD⟩:∃ D:ByteArray,⟨x.data.toArray⟩=D:=⟨_,rfl⟩;obtain⟨kx,ah⟩:∃ kx,x.kind=kx:=⟨_,rfl⟩;obtain⟨mx,ai⟩:∃ mx,x.mode=mx:=⟨_,rfl⟩
  have CL:Hid (∀ W,Below w.heap.size w W->W.cell? ⟨g,o,none⟩=some (.string X)/\W.cell? ⟨g,o+1,none⟩=some (.int .i64 kx)/\W.cell? ⟨g,o+2,none⟩=some (.string D)/\W.cell? ⟨g,o+3,none⟩=some (.int .i64 mx)):=hid (fun W hW=>by
   obtain⟨p,k,d,m⟩:=a4 W hW;unfold txt at p d;rw[hX]at p;rw[hD]at d
   exact⟨p,by rw[<- ah];exact k,d,by rw[<- ai];exact m⟩)
  obtain⟨e0,e1,e2,e3⟩:=CL.out w (Below.refl _ _);obtain⟨b2,aj⟩:∃ b,rightB x=b:=⟨_,rfl⟩
  have C2:Hid (∀ W,Calls Tryz.prog 87 #[.agg #[.string X,.int .i64 kx,.string D,.int .i64 mx]] W fun r w'=>r=.returned (.bool b2)/\Below W.heap.size W w'):=hid (fun W=>by
   have:=rright_any x W (by unfold maxLen;omega);unfold ndVal txt at this;rw[hX,hD,ah,ai,aj]at this
   exact this)
  have HR:Hid (rightV (x::r)=(decide (x.path=[])&&b2&&decide (n<=1000)&&(decide (r=[])||(decide (kx=2)&&treeB r)))):=hid (by unfold rightV;simp only;rw[aj,am,ah]);by_cases hp:x.path=[]
  ·have b5:X.toList.isEmpty=true:=by rw[toList_data,aa,hp];rfl
   cases b2 with
   | false =>
    have HF:Hid (rightV (x::r)=false):=hid (by rw[HR.out];simp);clear hX aa hD ah ai aj ag au a4 hn am hl hcap hs h hp;go_enter Tryz.func242,Tryz.ntmps242;repeat (first|(go_at_call 87;refine(C2.out _).mono ?_;rintro r w2 ⟨rfl,hb⟩;simp only[];have W2:=hid hb;clear hb)|go_skip|go_guarded|go_step|go_upon)
    go_ret;exact⟨by rw[HF.out];rfl,W2.out⟩
   | true =>
    by_cases hm:n<=1000
    ·have bu:¬(1000:Int)<n:=by omega
     by_cases h1:n=1
     ·have bx:((n:Int)==1)=true:=by simp;omega
      have HF:Hid (rightV (x::r)=true):=hid (by
       have hr:r=[]:=List.eq_nil_of_length_eq_zero (by omega)
       rw[HR.out,decide_eq_true hp,decide_eq_true hm,decide_eq_true hr];rfl)
      clear hX aa hD ah ai aj ag au a4 hn am hl hcap hs h hp hm h1;go_enter Tryz.func242,Tryz.ntmps242;repeat (first|(go_at_call 87;refine(C2.out _).mono ?_;rintro r w2 ⟨rfl,hb⟩;simp only[];obtain⟨e4,e5,e6,e7⟩:=CL.out w2 hb;have W2:=hid hb;clear hb)|go_skip|go_guarded|go_step|go_upon)
      go_ret;exact⟨by rw[HF.out];rfl,W2.out⟩
     ·have bx:((n:Int)==1)=false:=by simp;omega
      have ap:r≠[]:=fun e=>by rw[e]at am;simp at am;omega
      by_cases hk:kx=2
      ·have bv:(kx==2)=true:=by simp[hk]
       have b7:=fun W=>sl_tail g o n cap W (by omega) (by omega);obtain⟨q,hq⟩:∃ q,n-1=q:=⟨_,rfl⟩;have bk:r.length=q:=by omega
       obtain⟨E,hE⟩:∃ E:Nat,checkE r=E:=⟨_,rfl⟩
       have C3:Hid (∀ W,Below w.heap.size w W->Calls Tryz.prog 24 #[.slice (some ⟨g,o+4,none⟩) q (cap-1)] W fun r w'=>r=.returned (.int .i64 (E:Nat))/\Below W.heap.size W w'):=hid (fun W hW=>by
        have:=rcheck_any (some ⟨g,o+4,none⟩) (cap-1) r W (LayN.tail (HL.out.below hW)) (fun m hm=>hs m (List.mem_cons_of_mem _ hm)) (by unfold maxLen;omega);rw[bk,hE]at this
        exact this)
       rw[hq]at b7;obtain⟨b,hb⟩:∃ b,((E:Int)==0)=b:=⟨_,rfl⟩
       have HF:Hid (rightV (x::r)=b):=hid (by
        rw[HR.out,decide_eq_true hp,decide_eq_true hm,decide_eq_false ap,decide_eq_true hk,← hb,← hE];unfold checkE
        cases treeB r<;>simp)
       clear hX aa hD ah ai aj ag au a4 hn am hl hcap hs h hp hm h1 hk hE hq bk ap;go_enter Tryz.func242,Tryz.ntmps242;repeat (first|(go_at_call 87;refine(C2.out _).mono ?_;rintro r w2 ⟨rfl,a9⟩;simp only[];obtain⟨e4,e5,e6,e7⟩:=CL.out w2 a9;have W2:=hid a9;clear a9)|(go_at_call 24;refine(C3.out _ W2.out).mono ?_;rintro r w3 ⟨rfl,a9⟩;simp only[];have W3:=hid (Below.trans W2.out (a9.mono W2.out.size));clear a9)|go_skip|go_guarded|go_step|go_upon)
       go_ret;exact⟨by rw[HF.out];rfl,W3.out⟩
      ·have bv:(kx==2)=false:=by simp[hk]
       have HF:Hid (rightV (x::r)=false):=hid (by rw[HR.out,decide_eq_false ap,decide_eq_false hk];simp);clear hX aa hD ah ai aj ag au a4 hn am hl hcap hs h hp hm h1 hk ap;go_enter Tryz.func242,Tryz.ntmps242;repeat (first|(go_at_call 87;refine(C2.out _).mono ?_;rintro r w2 ⟨rfl,hb⟩;simp only[];obtain⟨e4,e5,e6,e7⟩:=CL.out w2 hb;have W2:=hid hb;clear hb)|go_skip|go_guarded|go_step|go_upon)
       go_ret;exact⟨by rw[HF.out];rfl,W2.out⟩
    ·have bu:(1000:Int)<n:=by omega
     have HF:Hid (rightV (x::r)=false):=hid (by rw[HR.out,decide_eq_false hm];simp);clear hX aa hD ah ai aj ag au a4 hn am hl hcap hs h hp hm;go_enter Tryz.func242,Tryz.ntmps242;repeat (first|(go_at_call 87;refine(C2.out _).mono ?_;rintro r w2 ⟨rfl,hb⟩;simp only[];obtain⟨e4,e5,e6,e7⟩:=CL.out w2 hb;have W2:=hid hb;clear hb)|go_skip|go_guarded|go_step|go_upon)
     go_ret;exact⟨by rw[HF.out];rfl,W2.out⟩
  ·have b5:X.toList.isEmpty=false:=by rw[toList_data,aa];simpa using hp
   have HF:Hid (rightV (x::r)=false):=hid (by rw[HR.out,decide_eq_false hp];simp);clear hX aa hD ah ai aj ag au a4 hn am hl hcap hs h hp;go_enter Tryz.func242,Tryz.ntmps242;repeat (first|go_skip|go_guarded|go_step|go_upon)
   go_ret;exact⟨by rw[HF.out];rfl,Below.refl _ _⟩
end TR
end
section
open Go.RowKit Go.Lib Go.BigFrame
namespace TR
open OM TP TM
def zeroN:Nd:=⟨[],0,[],0⟩
theorem cell4{W:World}{b:Nat}{a0 a1 a2 a3:Value}{t:TypeId}(h:W.heap[b]?=some (.cells #[a0,a1,a2,a3] t (0,0))) :
  W.cell? ⟨b,0,none⟩=some a0/\W.cell? ⟨b,1,none⟩=some a1/\W.cell? ⟨b,2,none⟩=some a2/\W.cell? ⟨b,3,none⟩=some a3/\∀ j,W.frozen? ⟨b,j,none⟩=false :=
 ⟨by rw[cell_of_row W b 0 _ _ _ h];rfl,by rw[cell_of_row W b 1 _ _ _ h];rfl,by rw[cell_of_row W b 2 _ _ _ h];rfl,by rw[cell_of_row W b 3 _ _ _ h];rfl,fun j=>frozen_of_row W b j _ _ h⟩
theorem checkE_zero(ts:List Nd):((checkE ts:Nat):Int)=0↔treeB ts=true:=by
 unfold checkE;cases treeB ts<;>simp
theorem infoS:(Tryz.prog.info? 9).map (fun i=>(i.zero,i.size,i.bytes))=some (some (.string ByteArray.empty),1,16):=by kernel_rfl
def NamesPost(ts:List Nd)(p:List UInt8)(w:World)(r:Ending)(w':World):Prop :=
 ∃ v,r=.returned v/\w'.ownsRow w.heap.size 9 1 v (namesL ts p).length ((namesL ts p).map txt)/\Below w.heap.size w w'
def namesK(ts:List Nd)(p:List UInt8)(k:Nat):List (List UInt8):=((ts.take k).filter fun n=>decide (NP.parentL n.path=p)).map fun n=>NP.baseL n.path
theorem namesK_yes{ts:List Nd}{p:List UInt8}{k:Nat}{x:Nd}(hx:ts[k]?=some x)(h:NP.parentL x.path=p):namesK ts p (k+1)=namesK ts p k++[NP.baseL x.path]:=by
 unfold namesK;rw[take_add_one,hx,Option.toList_some,List.filter_append,map_append];simp[h]
theorem namesK_no{ts:List Nd}{p:List UInt8}{k:Nat}{x:Nd}(hx:ts[k]?=some x)(h:NP.parentL x.path≠p):namesK ts p (k+1)=namesK ts p k:=by
 unfold namesK;rw[take_add_one,hx,Option.toList_some,List.filter_append,map_append];simp[h]
theorem namesK_len(ts:List Nd)(p:List UInt8)(k:Nat):(namesK ts p k).length<=k:=by
 unfold namesK;rw[List.length_map];have h1:=List.length_filter_le (fun n:Nd=>decide (NP.parentL n.path=p)) (ts.take k);rw[List.length_take]at h1;omega
theorem names_ok{ts:List Nd}{p:List UInt8}(h1:treeB ts=true)(h2:dirB ts p=true):namesL ts p=namesK ts p ts.length:=by
 unfold namesL namesK;rw[if_pos ⟨h1,h2⟩,List.take_length]
theorem names_bad{ts:List Nd}{p:List UInt8}(h:treeB ts=false\/dirB ts p=false):namesL ts p=[]:=by
 unfold namesL;rw[if_neg];rintro ⟨a,b⟩;rcases h with h|h
 ·rw[h]at a;cases a
 ·rw[h]at b;cases b
theorem NamesPost.nil{ts:List Nd}{p:List UInt8}{w w':World}(h:namesL ts p=[])(hb:Below w.heap.size w w'):NamesPost ts p w (.returned (.slice none 0 0)) w' :=
 ⟨_,rfl,by rw[h];exact World.ownsRow_nil _ _ _ _,hb⟩
theorem infoN:(Tryz.prog.info? 45).map (fun i=>(i.zero,i.size,i.bytes))=some (some (ndVal zeroN),4,48):=by kernel_rfl
def AtPost(l:List Nd)(w:World)(r:Ending)(w':World):Prop :=
 ∃ v,r=.returned v/\w'.ownsRow w.heap.size 45 4 v l.length (nodesC l)/\Below w.heap.size w w'
theorem AtPost.nil{l:List Nd}{w w':World}(h:l=[])(hb:Below w.heap.size w w'):AtPost l w (.returned (.slice none 0 0)) w' :=
 ⟨_,rfl,by rw[h];exact World.ownsRow_nil _ _ _ _,hb⟩
theorem nd_one(n:Nd):∀ u∈ndCells n,u.oneCell'=true:=by
 intro u hu;unfold ndCells txt at hu;simp at hu;rcases hu with rfl|rfl|rfl|rfl<;>rfl
theorem four_new(W:World)(g:Nat)(hg:g=W.heap.size)(n:Nd)(a d:Value)(ha:txt n.path=a)(hd:txt n.data=d)(t:TypeId) :
  ∀(j:Nat) (u:Value),(ndCells n)[j]?=some u->(W.alloc (.cells #[a,.int .i64 n.kind,d,.int .i64 n.mode] t)).cell? ((⟨g,0,none⟩:Addr).add j)=some u:=by
 subst hg ha hd;obtain⟨c0,c1,c2,c3,_⟩:=cell4 (heap_alloc_new W (.cells #[txt n.path,.int .i64 n.kind,txt n.data,.int .i64 n.mode] t));intro j u hu;have e:(⟨W.heap.size,0,none⟩:Addr).add j=⟨W.heap.size,j,none⟩:=by simp[Addr.add];omega
 rw[e]
 match j with
 | 0=>exact c0.trans hu
 | 1=>exact c1.trans hu
 | 2=>exact c2.trans hu
 | 3=>exact c3.trans hu
 | j+4=>cases hu
theorem lay_cells{W:World}{ad:Addr}{ts:List Nd}(h:LayN W (some ad) ts):∀(j:Nat) (u:Value),(nodesC ts)[j]?=some u->W.cell? (ad.add j)=some u:=by
 intro j u hu;have hj:=(List.getElem?_eq_some_iff.1 hu).1;rw[nodes_len]at hj;obtain⟨g,o,e,_,hc⟩:=h (by omega);cases e;obtain⟨x,hx⟩:∃ x,ts[j / 4]?=some x:=⟨_,getElem?_eq_getElem (show j / 4<ts.length by omega)⟩;obtain⟨y0,y1,y2,y3⟩:=hc _ x hx;obtain⟨z0,z1,z2,z3⟩:=nodes_at ts _ x hx;have e:(⟨g,o,none⟩:Addr).add j=⟨g,o+j,none⟩:=by simp[Addr.add]
 rw[e];rcases (by omega:j=j / 4*4\/j=j / 4*4+1\/j=j / 4*4+2\/j=j / 4*4+3)with hr|hr|hr|hr
 ·rw[hr]at hu ⊢;rw[z0]at hu;rw[<- hu];exact y0
 ·rw[hr]at hu ⊢;rw[z1]at hu;rw[<- hu];exact y1
 ·rw[hr]at hu ⊢;rw[z2]at hu;rw[<- hu];exact y2
 ·rw[hr]at hu ⊢;rw[z3]at hu;rw[<- hu];exact y3
theorem nds_one(ts:List Nd):∀ u∈nodesC ts,u.oneCell'=true:=by
 intro u hu;unfold nodesC at hu;rw[List.mem_flatMap]at hu;obtain⟨x,_,hx⟩:=hu;exact nd_one x u hx
theorem str_from(S:ByteArray)(a:Nat)(za:Int)(ha:za=a)(h2:a<=S.size)(W:World) :
  (Instr.slice 9 (.string S) (some (.int .i64 za)) none none).run Tryz.prog W=.ok (txt (S.data.toList.drop a)) W:=by
 subst ha;rw[run_slice_string_from_if W 9 S .i64 a Tryz.underlying9,if_pos (by omega)];unfold txt
 have e:(S.extract a S.size)=⟨(S.data.toList.drop a).toArray⟩:=by
  apply ByteArray.ext;apply Array.ext';rw[Lib.extract_data,take_of_length_le (by rw[List.length_drop,size_eq];simp)]
 simp[e]
end TR
end
section
open Go.RowKit Go.Lib Go.BigFrame
namespace TR
open OM TP TM
theorem rnames_any(ao:Option Addr)(cap:Nat)(ts:List Nd)(p:List UInt8)(w:World)(h:LayN w ao ts)(hs:Small ts)(hl:ts.length<=maxLen) :
  Calls Tryz.prog 140 #[.slice ao ts.length cap,txt p] w (NamesPost ts p w):=by
 obtain⟨i0,hi,aQ,aT,bA⟩:=info_parts infoS;have cC:=rcheck_any ao cap ts w h hs hl;have cD:=fun W (hW:LayN W ao ts)=>rdir_any ao cap ts p W hW hl;obtain⟨n,hn⟩:∃ n,ts.length=n:=⟨_,rfl⟩;have HN:=hid hn;have HL:=hid h;have aM:=hid hs;unfold maxLen at hl;rw[hn]at hl cC cD ⊢;have aB:(n:Int)<=9223372036854775807:=by omega
 unfold txt at cD ⊢;obtain⟨S,hS⟩:∃ S:ByteArray,⟨p.toArray⟩=S:=⟨_,rfl⟩;have HS:Hid (S.data.toList=p):=hid (by rw[<- hS]);obtain⟨E,hE⟩:∃ E:Nat,checkE ts=E:=⟨_,rfl⟩;have a8:=checkE_zero ts;rw[hS]at cD ⊢;rw[hE]at cC a8;obtain⟨b,hb⟩:∃ b,dirB ts p=b:=⟨_,rfl⟩;rw[hb]at cD;have CC:=hid cC;have CD:=hid cD;by_cases hE1:(E:Int)=0
 ·have b6:((E:Int) != 0)=false:=by simp[hE1]
  cases b with
  | false =>
   have HF:=hid (names_bad (ts:=ts) (.inr hb));clear h hn hS hl cC cD hE hs a8 hb hE1;go_enter Tryz.func140,Tryz.ntmps140;repeat (first|(go_at_call 24;refine CC.out.mono ?_;rintro r w1 ⟨rfl,hb⟩;simp only[];have B1:=hid hb;clear hb)|(go_at_call 88;refine(CD.out _ (HL.out.below B1.out)).mono ?_;rintro r w2 ⟨rfl,hb⟩;simp only[];have B2:=hid (Below.trans B1.out (hb.mono B1.out.size));clear hb)|go_skip|go_guarded|go_step|go_upon)
   go_ret;exact NamesPost.nil HF.out B2.out
  | true =>
   have bh:n<=1000:=by
    have:=((tree_iff ts).1 (a8.1 hE1)).len;omega
   have HF:=hid (names_ok (a8.1 hE1) hb);clear h hn hS hl cC cD hE hs a8 hb hE1;go_enter Tryz.func140,Tryz.ntmps140;repeat (first|(go_at_call 24;refine CC.out.mono ?_;rintro r w1 ⟨rfl,hb⟩;simp only[];have B1:=hid hb;clear hb)|(go_at_call 88;refine(CD.out _ (HL.out.below B1.out)).mono ?_;rintro r w2 ⟨rfl,hb⟩;simp only[];have B2:=hid (Below.trans B1.out (hb.mono B1.out.size));clear hb)|go_skip|go_guarded|go_step|go_upon)
   go_loopw [5,6] (fun s5 s6 wr=>∃ k:Nat,s6=.int .i64 k/\k<=n/\wr.ownsRow w.heap.size 9 1 s5 (namesK ts p k).length ((namesK ts p k).map txt)/\Below w.heap.size w wr) (fun _ s6 _=>n-(RowKit.intOf s6).toNat)
   case atStart=>exact⟨0,rfl,Nat.zero_le _,World.ownsRow_nil _ _ _ _,B2.out⟩
   case round =>
    obtain⟨k,rfl,hk,ho,hb⟩:=hrel;have HO:=hid ho;have HB:=hid hb;have aq:=hb.size;have az:=hid (HL.out.below hb);have bj:=hid (namesK_len ts p k);clear ho hb;by_cases hlt:k<n
    ·have ay:(k:Int)<n:=by omega
     obtain⟨g,o,rfl,hg,ab⟩:=az.out (by rw[HN.out];omega);obtain⟨x,hx⟩:∃ x,ts[k]?=some x:=⟨ts[k]'(by rw[HN.out];exact hlt),getElem?_eq_getElem _⟩;have ac:=mem_of_getElem? hx;obtain⟨ag,_⟩:=aM.out x ac;have aH:=hid (ab k x hx);have c0:=aH.out.p;unfold txt at c0;obtain⟨X,hX⟩:∃ X:ByteArray,⟨x.path.toArray⟩=X:=⟨_,rfl⟩;have aa:X.data.toList=x.path:=by rw[<- hX]
     have aw:X.size<=1048576:=by rw[size_eq,aa];exact ag
     have CL:Hid (∀ W,Below wr.heap.size wr W->W.cell? ⟨g,o+k*4,none⟩=some (.string X)):=hid (fun W hW=>by
      have:=(aH.out.below hg hW).p;unfold txt at this;rw[hX]at this
      exact this)
     rw[hX]at c0;obtain⟨P,hP⟩:∃ P:ByteArray,⟨(NP.parentL x.path).toArray⟩=P:=⟨_,rfl⟩
     have C3:Hid (∀ W,Calls Tryz.prog 89 #[.string X] W fun r w'=>r=.returned (.string P)/\Below W.heap.size W w'):=hid (fun W=>by
      refine(R1.RT.rparent_any X W aw).mono ?_;rintro r w' ⟨t,rfl,ht,hb⟩;rw[aa]at ht
      exact⟨by rw[<- hP,← ht,show(⟨t.data.toList.toArray⟩:ByteArray)=t by apply ByteArray.ext;simp],hb⟩)
     obtain⟨B,hB⟩:∃ B:ByteArray,⟨(NP.baseL x.path).toArray⟩=B:=⟨_,rfl⟩;have b9:Hid (txt (NP.baseL x.path)=.string B):=hid (by unfold txt;rw[hB])
     have C4:Hid (∀ W,Calls Tryz.prog 178 #[.string X] W fun r w'=>r=.returned (.string B)/\Below W.heap.size W w'):=hid (fun W=>by
      refine(R1.RT.rbase_any X W aw).mono ?_;rintro r w' ⟨t,rfl,ht,hb⟩;rw[aa]at ht
      exact⟨by rw[<- hB,← ht,show(⟨t.data.toList.toArray⟩:ByteArray)=t by apply ByteArray.ext;simp],hb⟩)
     have aP:P.data.toList=NP.parentL x.path:=by rw[<- hP]
     by_cases he:NP.parentL x.path=p
     ·have bE:(P.toList==S.toList)=true:=by rw[toList_data,toList_data,aP,HS.out,he];simp
      have HK:=hid (namesK_yes hx he);clear hX aa aw hP hB aP he hx ac ag ab
      repeat (first
       | (go_at_call 89;refine(C3.out _).mono ?_;rintro r w3 ⟨rfl,hb⟩;simp only[];have e3:=CL.out _ hb;have W3:=hid hb;clear hb)
       | (go_at_call 178;refine(C4.out _).mono ?_;rintro r w4 ⟨rfl,hb⟩;simp only[];have W4:=hid (Below.trans W3.out (hb.mono W3.out.size));have bi:=hid (owns_below HO.out W4.out);have bm:=hid (Below.trans HB.out (W4.out.mono aq));have br:=bm.out.size;clear hb)
       | (at_builtin;refine wpList_append_own _ rfl _ _ 48 rfl w.heap.size 9 i0 (.string ByteArray.empty) 1 16 Tryz.underlying48 hi aQ aT bA rfl (by decide) _ _ _ rfl (bi.out.alloc _) ⟨w4.heap.size,0,none⟩ 1 1 [.string B] rfl rfl (one_new _ _ _) (fun x hx=>by simp at hx;subst hx;rfl) (by have:=bj.out;unfold maxLen;omega) (by have:=bj.out;omega) (by simp;omega) ?_;intro v' w5 ar ak aI;have b4:=hid ar;have bq:=hid ((bm.out.alloc br (.cells #[.string B] 9)).grown ak (by simp;omega) (fun j hj=>(bi.out.lt j hj).1));clear ar ak aI)
       | go_skip|go_guarded|go_step|go_upon)
      refine⟨⟨k+1,by go_num,by omega,?_,bq.out⟩,by simp[RowKit.intOf];omega⟩;rw[HK.out,List.length_append,List.length_singleton,map_append,List.map_singleton,b9.out];exact b4.out
     ·have bE:(P.toList==S.toList)=false:=by rw[toList_data,toList_data,aP,HS.out];simpa using he
      have HK:=hid (namesK_no hx he);clear hX aa aw hP hB aP he hx ac ag ab
      repeat (first
       | (go_at_call 89;refine(C3.out _).mono ?_;rintro r w3 ⟨rfl,hb⟩;simp only[];have W3:=hid hb;have b8:=hid (owns_below HO.out hb);clear hb)
       | go_skip|go_guarded|go_step|go_upon)
      refine⟨⟨k+1,by go_num,by omega,?_,Below.trans HB.out (W3.out.mono aq)⟩,by simp[RowKit.intOf];omega⟩;rw[HK.out];exact b8.out
    ·have ay:¬(k:Int)<n:=by omega
     have bn:k=n:=by omega
     have HK:Hid (namesL ts p=namesK ts p k):=hid (by rw[HF.out,HN.out,bn]);clear hlt bn;repeat (first|go_skip|go_guarded|go_step|go_upon)
     go_ret;exact⟨_,rfl,by rw[HK.out];exact HO.out,HB.out⟩
 ·have b6:((E:Int) != 0)=true:=by simp;omega
  have HF:=hid (names_bad (ts:=ts) (p:=p) (.inl (by cases ht:treeB ts with|false=>rfl|true=>exact absurd (a8.2 ht) hE1)));clear h hn hS hl cC cD hE hs a8 hb hE1;go_enter Tryz.func140,Tryz.ntmps140;repeat (first|(go_at_call 24;refine CC.out.mono ?_;rintro r w1 ⟨rfl,hb⟩;simp only[];have B1:=hid hb;clear hb)|go_skip|go_guarded|go_step|go_upon)
  go_ret;exact NamesPost.nil HF.out B1.out
end TR
end
end Go.Proofs.YtkmcjededpamnaaGreatDoor
