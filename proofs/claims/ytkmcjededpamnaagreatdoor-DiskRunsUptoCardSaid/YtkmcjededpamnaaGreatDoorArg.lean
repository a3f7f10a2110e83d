import Derived.Test.YtkmcjededpamnaaGreatDoorMg23
import Derived.Test.YtkmcjededpamnaaGreatDoorTreeGoD
import Derived.Deep.Slices
import Derived.Deep.SlicePairs
set_option linter.all false
set_option maxRecDepth 100000
set_option maxHeartbeats 0
namespace Go.Proofs.YtkmcjededpamnaaGreatDoor
section
open Go.RowKit Go.Lib Go.BigFrame
namespace TL
open OM TP TM TR TG
structure Arg(w:World)(ao:Option Addr)(ca:Nat)(ts:List Nd):Prop where
 lay:LayN w ao ts
 no:ao=none->ca=0
 cap:ts.length<=ca
 small:SmallG ts
 len:ts.length<=1048576
theorem Arg.nil(w:World):Arg w none 0 []:=⟨LayN.nil _ _,fun _=>rfl,Nat.le_refl _,fun n hn=>by simp at hn,by simp⟩
theorem Arg.max{w:World}{ao:Option Addr}{ca:Nat}{ts:List Nd}(h:Arg w ao ca ts):ts.length<=maxLen:=by have:=h.len;unfold maxLen;omega
theorem Arg.put{w:World}{ao bo:Option Addr}{ca cb:Nat}{ts v:List Nd}{p:List UInt8}(he:NF.Env w)(h:Arg w ao ca ts)(k:Arg w bo cb v)(hp:p.length<=1048576) :
  Calls Tryz.prog 164 #[.slice ao ts.length ca,txt p,.slice bo v.length cb] w (PutPost (putL ts p v) w) :=
 put_any ao ca ts p bo cb v w he h.lay k.lay h.small k.small h.max k.max h.cap k.cap hp h.no k.no
end TL
end
section
open Go.ChangeShapes Go.WideShapes Go.ChangeAt Go.RowKit Go.Lib
namespace TF
open OM TP TM TR TG TL
section
open Go.Deep
variable {H:Type} {enc:TypeId×Value->H} {P:Program} {w:World} {base:Nat} {spare:Nat->Bool} {held:Bool}
theorem open_fours{t e:TypeId}{f0 f1 f2 f3:Field}{fuel:Nat}{cs:List Value}{x:DataW H×List MemPlace}(ht:P.underlying t=some (.slice e))(he:P.underlying e=some (.struct #[f0,f1,f2,f3]))
  (ce:P.cellsOf e=4) (o0:f0.offset=0) (o1:f1.offset=1) (o2:f2.offset=2) (o3:f3.offset=3) (c0:P.cellsOf f0.type=1) (c1:P.cellsOf f1.type=1) (c2:P.cellsOf f2.type=1) (c3:P.cellsOf f3.type=1)
  (h:DataW.trod enc P w base spare held fuel t cs=some x) :
  cs=[.slice none 0 0] \/
  ∃(a:Addr) (len cap n:Nat) (D:Nat->DataW H) (sp:List (DataW H)),cs=[.slice (some a) len cap]/\len<=cap/\cap<=maxLen/\x.1=.slice ((List.range len).map D) sp /\
   ∀ i,i<len->∃(v0 v1 v2 v3:Value) (y0 y1 y2 y3:DataW H×List MemPlace),w.cell? (a.add (i*4))=some v0/\w.cell? (a.add (i*4+1))=some v1/\w.cell? (a.add (i*4+2))=some v2/\w.cell? (a.add (i*4+3))=some v3 /\
    D i=.agg [y0.1,y1.1,y2.1,y3.1] /\
    DataW.trod enc P w base spare held n f0.type [v0]=some y0/\DataW.trod enc P w base spare held n f1.type [v1]=some y1/\DataW.trod enc P w base spare held n f2.type [v2]=some y2/\DataW.trod enc P w base spare held n f3.type [v3]=some y3:=by
 rcases open_slice ht h with h0|⟨a,len,cap,m,n,D,Pl,rfl,hb,hl,hm,bm,rfl,hx⟩
 ·exact Or.inl h0.1
 right;have br:len<=m:=by rw[bm];split<;>omega
 refine⟨a,len,cap,n-1,D,_,rfl,hl,hm,rfl,fun i hi=>?_⟩;obtain⟨bq,h1,h2⟩:=hx i (by omega);rw[ce]at h1;obtain⟨_,ay,aa⟩:=World.cells?_some h1;obtain⟨xs,k,hk,aR,_,bi,hf⟩:=DataW.trod_struct he h2;have bk:k=n-1:=by omega
 subst bk
 match xs,bi,bq,ay with
 | [y0,y1,y2,y3],_,[v0,v1,v2,v3],_ =>
  have g0:=hf 0 f0 rfl;have g1:=hf 1 f1 rfl;have g2:=hf 2 f2 rfl;have g3:=hf 3 f3 rfl;simp[o0,o1,o2,o3,c0,c1,c2,c3]at g0 g1 g2 g3;have e0:=aa 0 (by omega);have e1:=aa 1 (by omega);have e2:=aa 2 (by omega);have e3:=aa 3 (by omega);rw[add_add]at e0 e1 e2 e3;simp only[Prod.mk.injEq]at aR;exact⟨v0,v1,v2,v3,y0,y1,y2,y3,by simpa using e0,by simpa using e1,by simpa using e2,by simpa using e3,aR.1,g0,g1,g2,g3⟩
end
theorem add_plain(b off k:Nat):(⟨b,off,none⟩:Addr).add k=⟨b,off+k,none⟩:=by unfold Addr.add;split<;>simp_all
theorem bulk_pos{H:Type}(d:DataW H):1<=Rows.uptoBulk d:=by
 cases d with
 | lit l=>cases l<;>simp[Rows.uptoBulk]
 | _=>simp[Rows.uptoBulk]
theorem bulk_len{H:Type}:∀(l:List (DataW H)),l.length<=Rows.uptoBulkAll l
 | []=>Nat.zero_le _
 | d::r=>by
  have:=bulk_pos d;have:=bulk_len r;rw[Rows.uptoBulkAll,List.length_cons];omega
theorem bulk_mem{H:Type}{d:DataW H}:∀ {l:List (DataW H)},d∈l->Rows.uptoBulk d<=Rows.uptoBulkAll l
 | e::r,h=>by
  rw[Rows.uptoBulkAll];rcases List.mem_cons.1 h with rfl|h
  ·omega
  ·have:=bulk_mem h;omega
theorem nodes_arg{H:Type}{enc:TypeId×Value->H}{W:World}{spare:Nat->Bool}{held:Bool}{fuel len cap:Nat}{a0:Option Addr}{x:DataW H×List MemPlace}
  (h:DataW.trod enc Tryz.prog W 0 spare held fuel 22 (Value.slice a0 len cap).cells.toList=some x) (hb:Rows.uptoBulk x.1<=1048576) :
  ∃ ts:List Nd,ts.length=len/\Arg W a0 cap ts:=by
 rcases open_fours Tryz.underlying22 Tryz.underlying45 (by kernel_rfl) rfl rfl rfl rfl (by kernel_rfl) (by kernel_rfl) (by kernel_rfl) (by kernel_rfl) h with aA|⟨ad,aU,be,n,D,sp,aA,hl,hm,hx,aa⟩
 ·simp[Value.cells]at aA;obtain⟨rfl,rfl,rfl⟩:=aA;exact⟨[],rfl,Arg.nil W⟩
 ·simp[Value.cells]at aA;obtain⟨rfl,rfl,rfl⟩:=aA;rw[hx,Rows.uptoBulk]at hb
  have ay:len<=1048576:=by
   have:=bulk_len ((List.range len).map D);rw[List.length_map,List.length_range]at this;omega
  have bj:∀ i,i<len->∃ r:Nd,W.cell? (ad.add (i*4))=some (txt r.path)/\W.cell? (ad.add (i*4+1))=some (.int .i64 r.kind)/\W.cell? (ad.add (i*4+2))=some (txt r.data)/\W.cell? (ad.add (i*4+3))=some (.int .i64 r.mode)/\r.path.length<=1048576/\r.data.length<=1048576:=by
   intro i hi;obtain⟨v0,v1,v2,v3,y0,y1,y2,y3,e0,e1,e2,e3,hD,t0,t1,t2,t3⟩:=aa i hi;obtain⟨s0,f0,g0,w0⟩:=DataW.trod_string (by exact Tryz.underlying9) t0;obtain⟨k1,f1,_,_⟩:=DataW.trod_int (by exact Tryz.underlying3) t1;obtain⟨s2,f2,g2,w2⟩:=DataW.trod_string (by exact Tryz.underlying9) t2;obtain⟨k3,f3,_,_⟩:=DataW.trod_int (by exact Tryz.underlying3) t3;simp only[List.cons.injEq,and_true]at f0 f1 f2 f3;have hm:=bulk_mem (d:=D i) (l:=(List.range len).map D) (List.mem_map.2 ⟨i,List.mem_range.2 hi,rfl⟩);rw[hD,g0,g2]at hm;simp only[Rows.uptoBulk,Rows.uptoBulkAll]at hm;exact⟨⟨s0.data.toList,k1,s2.data.toList,k3⟩,by rw[e0,f0,txt_data],by rw[e1,f1],by rw[e2,f2,txt_data],by rw[e3,f3],by show s0.data.toList.length<=_;omega,by show s2.data.toList.length<=_;omega⟩
  haveI:Inhabited Nd:=⟨zeroG⟩
  obtain⟨R,hR⟩:=Deep.choose_lt bj;have ah:((List.range len).map R).length=len:=by simp
  refine⟨(List.range len).map R,ah,fun h0=>?_,(fun e=>by cases e),by rw[ah];exact hl,fun m hm=>?_,by rw[ah];exact ay⟩
  ·rw[ah]at h0;obtain⟨b,off,aN⟩:=ad;have c0:=(hR 0 (by omega)).1;have a9:aN=none:=by simpa[Addr.add] using World.cell?_spot c0
   subst a9;rw[add_plain]at c0;refine⟨b,off,rfl,(World.block_lt_of_cell? _ _ c0 :),fun k r hk=>?_⟩;have aC:k<len:=by have:=(List.getElem?_eq_some_iff.1 hk).1;rw[ah]at this;exact this
   rw[List.getElem?_map,List.getElem?_range aC]at hk;simp only[Option.map_some,Option.some.injEq]at hk;subst hk;obtain⟨d0,d1,d2,d3,_,_⟩:=hR k aC;rw[add_plain]at d0 d1 d2 d3;exact⟨d0,by rw[<- d1,Nat.add_assoc],by rw[<- d2,Nat.add_assoc],by rw[<- d3,Nat.add_assoc]⟩
  ·obtain⟨i,hi,rfl⟩:=List.mem_map.1 hm;have:=hR i (List.mem_range.1 hi);exact⟨this.2.2.2.2.1,this.2.2.2.2.2⟩
end TF
end
section
open Go.RowKit Go.Lib Go.BigFrame
namespace TW
open OM TP TM TR TG TL
def LongG(ts:List Nd):Prop:=∀ n∈ts,n.path.length<=maxLen
theorem small_right{n:Nd}(h:rightB n=true):n.data.length<=1048576:=by
 unfold rightB at h;split at h
 ·simp only[Bool.and_eq_true,decide_eq_true_eq]at h;omega
 ·split at h
  ·simp only[Bool.and_eq_true,decide_eq_true_eq]at h;rw[h.1];simp
  ·split at h
   ·simp only[Bool.and_eq_true,decide_eq_true_eq]at h;omega
   ·cases h
theorem small_path{q:List UInt8}(h:NP.pathL q=true):q.length<=1048576:=by have:=((path_iff q).1 h).1;omega
theorem small_tree{t:List Nd}(h:Tree t):SmallG t:=fun n hn=>⟨small_path (h.path n hn),small_right (h.right n hn)⟩
theorem small_val{v:List Nd}(h:Val v):SmallG v:=fun n hn=>⟨by
 rcases h.path n hn with e|e
 ·rw[e];simp
 ·exact small_path e,small_right (h.right n hn)⟩
theorem path_wide(S:ByteArray)(l:List UInt8)(w:World)(he:NF.Env w)(hS:S.data.toList=l)(h:l.length<=maxLen) :
  Calls Tryz.prog 60 #[.string S] w fun e w'=>e=.returned (.bool (NP.pathL l))/\Below w.heap.size w w':=by
 subst hS;exact NF.path_any S w he (by rw[size_eq];exact h)
theorem right_wide(n:Nd)(w:World):Calls Tryz.prog 114 #[ndVal n] w fun r w'=>r=.returned (.bool (rightB n))/\Below w.heap.size w w':=by
 obtain⟨p,k,d,m⟩:=n;unfold ndVal txt;simp only;obtain⟨S,hS⟩:∃ S:ByteArray,⟨d.toArray⟩=S:=⟨_,rfl⟩;have al:S.data.toList=d:=by rw[<- hS]
 obtain⟨dl,au⟩:∃ dl,d.length=dl:=⟨_,rfl⟩;have bn:S.size=dl:=by rw[size_eq,al];exact au
 obtain⟨bc,a8⟩:∃ b,d.contains 0=b:=⟨_,rfl⟩
 have CC:Hid (∀ W,Calls Tryz.prog 162 #[.string S,.string ⟨#[0]⟩] W fun e w'=>e=.returned (.bool bc)/\w'=W):=hid (fun W=>by
  have:=Tryz.strings_Contains_one S 0 W;rw[idx_contains,al,a8]at this
  exact this)
 rw[hS];have B0:Hid (Below w.heap.size w (w.alloc (.cells #[.string ⟨p.toArray⟩,.int .i64 k,.string S,.int .i64 m] 45))):=hid ((Below.refl _ _).alloc (Nat.le_refl _) _);by_cases h1:k=1
 ·have k1:(k==1)=true:=by simp[h1]
  have HR:Hid (rightB ⟨p,k,d,m⟩=(decide (dl<=65536)&&decide (0<=m)&&decide (m<=511))):=hid (by unfold rightB;simp only;rw[if_pos h1,au]);clear hS al au h1 a8;by_cases a1:dl<=65536
  ·have b1:(dl:Int)<=65536:=by omega
   have aY:decide ((dl:Int)<=65536)=true:=decide_eq_true b1;by_cases a2:0<=m
   ·have aM:decide (0<=m)=true:=decide_eq_true a2;by_cases a3:m<=511
    ·have HB:Hid (rightB ⟨p,k,d,m⟩=true):=hid (by rw[HR.out,decide_eq_true a1,decide_eq_true a2,decide_eq_true a3];rfl);clear a1;go_enter Tryz.func114,Tryz.ntmps114;repeat (first|go_skip|go_guarded|go_step|go_upon)
     go_ret;exact⟨by rw[HB.out];simp[a3],B0.out⟩
    ·have HB:Hid (rightB ⟨p,k,d,m⟩=false):=hid (by rw[HR.out,decide_eq_false a3];simp);clear a1;go_enter Tryz.func114,Tryz.ntmps114;repeat (first|go_skip|go_guarded|go_step|go_upon)
     go_ret;exact⟨by rw[HB.out];simp[a3],B0.out⟩
   ·have aM:decide (0<=m)=false:=decide_eq_false a2;have HB:Hid (rightB ⟨p,k,d,m⟩=false):=hid (by rw[HR.out,decide_eq_false a2];simp);clear a1;go_enter Tryz.func114,Tryz.ntmps114;repeat (first|go_skip|go_guarded|go_step|go_upon)
    go_ret;exact⟨by rw[HB.out];rfl,B0.out⟩
  ·have b1:¬(dl:Int)<=65536:=by omega
   have aY:decide ((dl:Int)<=65536)=false:=decide_eq_false b1;have HB:Hid (rightB ⟨p,k,d,m⟩=false):=hid (by rw[HR.out,decide_eq_false a1];simp);clear a1;go_enter Tryz.func114,Tryz.ntmps114;repeat (first|go_skip|go_guarded|go_step|go_upon)
   go_ret;exact⟨by rw[HB.out];rfl,B0.out⟩
 ·have k1:(k==1)=false:=by simp[h1]
  by_cases h2:k=2
  ·have k2:(k==2)=true:=by simp[h2]
   have HR:Hid (rightB ⟨p,k,d,m⟩=(decide (d=[])&&decide (m=0))):=hid (by unfold rightB;simp only;rw[if_neg h1,if_pos h2]);clear au h1 h2 bn a8;by_cases a1:d=[]
   ·have b1:S.toList.isEmpty=true:=by rw[toList_data,al,a1];rfl
    obtain⟨b2,ai⟩:∃ b2,(m==0)=b2:=⟨_,rfl⟩;have HB:Hid (rightB ⟨p,k,d,m⟩=b2):=hid (by rw[HR.out,decide_eq_true a1,← ai,Bool.true_and,Bool.eq_iff_iff];simp);clear a1 hS al;go_enter Tryz.func114,Tryz.ntmps114;repeat (first|go_skip|go_guarded|go_step|go_upon)
    go_ret;exact⟨by rw[HB.out];rfl,B0.out⟩
   ·have b1:S.toList.isEmpty=false:=by rw[toList_data,al];simp[a1]
    have HB:Hid (rightB ⟨p,k,d,m⟩=false):=hid (by rw[HR.out,decide_eq_false a1];simp);clear a1 hS al;go_enter Tryz.func114,Tryz.ntmps114;repeat (first|go_skip|go_guarded|go_step|go_upon)
    go_ret;exact⟨by rw[HB.out];rfl,B0.out⟩
  ·have k2:(k==2)=false:=by simp[h2]
   by_cases h3:k=3
   ·have k3:(k==3)=true:=by simp[h3]
    have HR:Hid (rightB ⟨p,k,d,m⟩=(!bc&&decide (1<=dl)&&decide (dl<=400)&&decide (m=0))):=hid (by unfold rightB;simp only;rw[if_neg h1,if_neg h2,if_pos h3,au,a8]);have ak:S.toList.isEmpty=decide (dl=0):=by rw[toList_data,al,← au,Bool.eq_iff_iff];simp
    clear hS al au h1 h2 h3 a8;by_cases a1:1<=dl
    ·have b1:S.toList.isEmpty=false:=by rw[ak,decide_eq_false (by omega)]
     by_cases a2:dl<=400
     ·have b2:(dl:Int)<=400:=by omega
      have aM:decide ((dl:Int)<=400)=true:=decide_eq_true b2
      cases bc with
      | true =>
       have HB:Hid (rightB ⟨p,k,d,m⟩=false):=hid (by rw[HR.out];simp);clear a1 a2 ak HR;go_enter Tryz.func114,Tryz.ntmps114;repeat (first|(go_at_call 162;refine(CC.out _).mono ?_;rintro r w1 ⟨rfl,rfl⟩;simp only[])|go_skip|go_guarded|go_step|go_upon)
       go_ret;exact⟨by rw[HB.out];rfl,B0.out⟩
      | false =>
       obtain⟨b3,aB⟩:∃ b3,(m==0)=b3:=⟨_,rfl⟩;have HB:Hid (rightB ⟨p,k,d,m⟩=b3):=hid (by rw[HR.out,decide_eq_true a1,decide_eq_true a2,← aB,Bool.eq_iff_iff];simp);clear a1 a2 ak HR;go_enter Tryz.func114,Tryz.ntmps114;repeat (first|(go_at_call 162;refine(CC.out _).mono ?_;rintro r w1 ⟨rfl,rfl⟩;simp only[])|go_skip|go_guarded|go_step|go_upon)
       go_ret;exact⟨by rw[HB.out];rfl,B0.out⟩
     ·have b2:¬(dl:Int)<=400:=by omega
      have aM:decide ((dl:Int)<=400)=false:=decide_eq_false b2;have HB:Hid (rightB ⟨p,k,d,m⟩=false):=hid (by rw[HR.out,decide_eq_false a2];simp);clear a1 a2 ak HR;go_enter Tryz.func114,Tryz.ntmps114;repeat (first|go_skip|go_guarded|go_step|go_upon)
      go_ret;exact⟨by rw[HB.out];rfl,B0.out⟩
    ·have b1:S.toList.isEmpty=true:=by rw[ak,decide_eq_true (by omega)]
     have HB:Hid (rightB ⟨p,k,d,m⟩=false):=hid (by rw[HR.out,decide_eq_false a1];simp);clear a1 ak HR;go_enter Tryz.func114,Tryz.ntmps114;repeat (first|go_skip|go_guarded|go_step|go_upon)
     go_ret;exact⟨by rw[HB.out];rfl,B0.out⟩
   ·have k3:(k==3)=false:=by simp[h3]
    have HB:Hid (rightB ⟨p,k,d,m⟩=false):=hid (by unfold rightB;simp only;rw[if_neg h1,if_neg h2,if_neg h3]);clear hS al au h1 h2 h3 a8;go_enter Tryz.func114,Tryz.ntmps114;repeat (first|go_skip|go_guarded|go_step|go_upon)
    go_ret;exact⟨by rw[HB.out];rfl,B0.out⟩
theorem check_wide(ao:Option Addr)(cap:Nat)(ts:List Nd)(w:World)(he:NF.Env w)(h:LayN w ao ts)(hs:LongG ts)(hl:ts.length<=maxLen)(hcap:ts.length<=cap) :
  Calls Tryz.prog 53 #[.slice ao ts.length cap] w fun r w'=>r=.returned (.int .i64 (checkG ts:Nat))/\Below w.heap.size w w':=by
 obtain⟨n,hn⟩:∃ n,ts.length=n:=⟨_,rfl⟩;have HN:=hid hn;have HL:=hid h;have aX:=hid hs;have HE:=hid he;unfold maxLen at hl;rw[hn]at hl hcap ⊢;have ba:(n:Int)<=9223372036854775807:=by omega
 by_cases h0:n<=1000
 ·have aV:¬(1000:Int)<n:=by omega
  clear h hn hl hs he;go_enter Tryz.func53,Tryz.ntmps53;repeat (first|go_skip|go_guarded|go_step|go_upon)
  go_loopw [10] (fun s10 wr=>∃ k:Nat,s10=.int .i64 k/\k<=n/\treeB (ts.take k)=true/\Below w.heap.size w wr) (fun s10 _=>n-(RowKit.intOf s10).toNat)
  case atStart=>exact⟨0,rfl,Nat.zero_le _,rfl,Below.refl _ _⟩
  case round =>
   obtain⟨k,rfl,hk,ht,hb⟩:=hrel;have HT:=hid ht;have HB:=hid hb;have bb:=hb.size;have aS:=hid (HL.out.below hb);have aW:=hid (HE.out.below hb);clear ht hb;by_cases hlt:k<n
   ·have bl:(k:Int)<n:=by omega
    obtain⟨g,o,rfl,hg,aa⟩:=aS.out (by rw[HN.out];omega);obtain⟨x,hx⟩:∃ x,ts[k]?=some x:=⟨ts[k]'(by rw[HN.out];exact hlt),List.getElem?_eq_getElem _⟩;have aD:=List.mem_of_getElem? hx;have aQ:=aX.out x aD;obtain⟨c0,c1,c2,c3⟩:=aa k x hx;obtain⟨X,hX,aq⟩:=txt_of x.path;obtain⟨D,hD,_⟩:=txt_of x.data;obtain⟨kx,am⟩:∃ kx,x.kind=kx:=⟨_,rfl⟩;obtain⟨mx,ap⟩:∃ mx,x.mode=mx:=⟨_,rfl⟩;rw[hX]at c0;rw[am]at c1;rw[hD]at c2;rw[ap]at c3;obtain⟨wa,az⟩:∃ wa,wr.alloc (.cells #[.string X,.int .i64 kx,.string D,.int .i64 mx] 45)=wa:=⟨_,rfl⟩;have aL:Below wr.heap.size wr wa:=by rw[<- az];exact(Below.refl _ _).alloc (Nat.le_refl _) _
    obtain⟨a0,a1,a2,a3⟩:=box4 wr (.string X) (.int .i64 kx) (.string D) (.int .i64 mx) 45;rw[az]at a0 a1 a2 a3;have av:=hid (Below.trans HB.out (aL.mono bb));have aO:=hid (aW.out.below aL);have bd:=hid (aS.out.below aL);obtain⟨b1,aH⟩:∃ b,NP.pathL x.path=b:=⟨_,rfl⟩;obtain⟨b2,ai⟩:∃ b,rightB x=b:=⟨_,rfl⟩;obtain⟨b3,aB⟩:∃ b,goesB (ts.take k) x.path=b:=⟨_,rfl⟩;have ag:Hid (treeB (ts.take (k+1))=(b1&&b2&&b3)):=hid (by rw[tree_step hx HT.out (by rw[HN.out];exact h0),aH,ai,aB])
    have D1:=hid (reg_g (w:=wa) (f:=60) (args:=#[.string X]) (v:=.bool b1) (fun W hW=>by
     have:=path_wide X x.path W (aO.out.below hW) aq aQ;rw[aH]at this
     exact this))
    have D2:=hid (reg_g (w:=wa) (f:=114) (args:=#[.agg #[.string X,.int .i64 kx,.string D,.int .i64 mx]]) (v:=.bool b2) (fun W hW=>by
     have:=right_wide x W;unfold ndVal at this;rw[hX,hD,am,ap,ai]at this
     exact this))
    have D3:=hid (fun(hbt:b1=true)=>reg_g (w:=wa) (f:=115) (args:=#[.slice (some ⟨g,o,none⟩) k cap,.string X]) (v:=.bool b3) (fun W hW=>by
     have aC:(ts.take k).length=k:=by rw[List.length_take,HN.out];omega
     have:=goes_any (some ⟨g,o,none⟩) cap (ts.take k) x.path W (aO.out.below hW) ((bd.out.below hW).take k) ((tree_iff _).1 HT.out).sorted (small_tree ((tree_iff _).1 HT.out)) (by rw[aC];omega) (small_path (aH.trans hbt));rw[aC,hX,aB]at this
     exact this))
    have aw:=sl_to ndsl_node (some ⟨g,o,none⟩) n k cap k rfl (by omega);have aF:=cell_regrown a0;have aG:=cell_regrown a1;have aI:=cell_regrown a2;have aJ:=cell_regrown a3;clear aa hX aq hD am ap aH ai aB hx aD aQ hlt;repeat (first|go_skip|go_guarded|go_step|go_upon)
    cases b1 with
    | false =>
     have HF:Hid (checkG ts=60):=hid (check_no (tree_stop (k:=k+1) (by rw[ag.out];rfl)));with_reducible refine wp_region_quiet_below (by kernel_rfl) (by kernel_rfl) ?_
     repeat (go_big_quiet_step (first|(go_at_call 60;exact D1.out _ _)|(go_at_call 114;exact D2.out _ _)|(go_at_call 115;exact D3.out rfl _ _)))
     refine wpQuiet_nil ?_;intro _ hw';obtain⟨⟨dq,ab⟩,ac⟩:=hw';subst ac;have W5:Hid (Below wa.heap.size wa (Go.Sort.grow (redrawn wa dq) ab)):=hid (below_regrown wa dq ab);clear aF aG aI aJ a0 a1 a2 a3 az;generalize Go.Sort.grow (redrawn wa dq) ab=w5 at W5 ⊢;repeat (first|go_skip|go_guarded|go_step|go_upon)
     go_ret;exact⟨by rw[HF.out];rfl,Below.trans av.out (W5.out.mono av.out.size)⟩
    | true =>
     cases b2 with
     | false =>
      have HF:Hid (checkG ts=60):=hid (check_no (tree_stop (k:=k+1) (by rw[ag.out];rfl)));with_reducible refine wp_region_quiet_below (by kernel_rfl) (by kernel_rfl) ?_
      repeat (go_big_quiet_step (first|(go_at_call 60;exact D1.out _ _)|(go_at_call 114;exact D2.out _ _)|(go_at_call 115;exact D3.out rfl _ _)))
      refine wpQuiet_nil ?_;intro _ hw';obtain⟨⟨dq,ab⟩,ac⟩:=hw';subst ac;have W5:Hid (Below wa.heap.size wa (Go.Sort.grow (redrawn wa dq) ab)):=hid (below_regrown wa dq ab);clear aF aG aI aJ a0 a1 a2 a3 az;generalize Go.Sort.grow (redrawn wa dq) ab=w5 at W5 ⊢;repeat (first|go_skip|go_guarded|go_step|go_upon)
      go_ret;exact⟨by rw[HF.out];rfl,Below.trans av.out (W5.out.mono av.out.size)⟩
     | true =>
      cases b3 with
      | false =>
       have HF:Hid (checkG ts=60):=hid (check_no (tree_stop (k:=k+1) (by rw[ag.out];rfl)));with_reducible refine wp_region_quiet_below (by kernel_rfl) (by kernel_rfl) ?_
       repeat (go_big_quiet_step (first|(go_at_call 60;exact D1.out _ _)|(go_at_call 114;exact D2.out _ _)|(go_at_call 115;exact D3.out rfl _ _)))
       refine wpQuiet_nil ?_;intro _ hw';obtain⟨⟨dq,ab⟩,ac⟩:=hw';subst ac;have W5:Hid (Below wa.heap.size wa (Go.Sort.grow (redrawn wa dq) ab)):=hid (below_regrown wa dq ab);clear aF aG aI aJ a0 a1 a2 a3 az;generalize Go.Sort.grow (redrawn wa dq) ab=w5 at W5 ⊢;repeat (first|go_skip|go_guarded|go_step|go_upon)
       go_ret;exact⟨by rw[HF.out];rfl,Below.trans av.out (W5.out.mono av.out.size)⟩
      | true =>
       with_reducible refine wp_region_quiet_below (by kernel_rfl) (by kernel_rfl) ?_
       repeat (go_big_quiet_step (first|(go_at_call 60;exact D1.out _ _)|(go_at_call 114;exact D2.out _ _)|(go_at_call 115;exact D3.out rfl _ _)))
       refine wpQuiet_nil ?_;intro _ hw';obtain⟨⟨dq,ab⟩,ac⟩:=hw';subst ac;have W5:Hid (Below wa.heap.size wa (Go.Sort.grow (redrawn wa dq) ab)):=hid (below_regrown wa dq ab);clear aF aG aI aJ a0 a1 a2 a3 az;generalize Go.Sort.grow (redrawn wa dq) ab=w5 at W5 ⊢;repeat (first|go_skip|go_guarded|go_step|go_upon)
       exact⟨⟨k+1,by go_num,by omega,ag.out,Below.trans av.out (W5.out.mono av.out.size)⟩,by simp[RowKit.intOf];omega⟩
   ·have bl:¬(k:Int)<n:=by omega
    have HF:Hid (checkG ts=0):=hid (check_yes (by
     have:=HT.out;rw[List.take_of_length_le (by rw[HN.out];omega)]at this
     exact this))
    clear hlt;repeat (first|go_skip|go_guarded|go_step|go_upon)
    go_ret;exact⟨by rw[HF.out];rfl,HB.out⟩
 ·have aV:(1000:Int)<n:=by omega
  have HB:Hid (checkG ts=60):=hid (check_no (by unfold treeB;rw[hn,decide_eq_false h0];rfl));clear h hn hl hs h0 he;go_enter Tryz.func53,Tryz.ntmps53;repeat (first|go_skip|go_guarded|go_step|go_upon)
  go_ret;exact⟨by rw[HB.out];rfl,Below.refl _ _⟩
theorem rightV_wide(ao:Option Addr)(cap:Nat)(v:List Nd)(w:World)(he:NF.Env w)(h:LayN w ao v)(hs:LongG v)(hl:v.length<=maxLen)(hcap:v.length<=cap) :
  Calls Tryz.prog 123 #[.slice ao v.length cap] w fun r w'=>r=.returned (.bool (rightV v))/\Below w.heap.size w w':=by
 cases v with
 | nil =>
  go_enter Tryz.func123,Tryz.ntmps123;repeat (first|go_skip|go_guarded|go_step|go_upon)
  go_ret;exact⟨rfl,Below.refl _ _⟩
 | cons x r =>
  have HL:=hid h;have HE:=hid he;have aw:=sl_from ndsl_node ao (x::r) 1 cap (by simp) hcap;obtain⟨aE,c',aw,aj,aP,_⟩:=aw;have bg:Hid (∀ W,Below w.heap.size w W->LayN W aE r):=hid (fun W hW=>aj W (HL.out.below hW));obtain⟨g,o,rfl,hg,a6⟩:=lay_first h;obtain⟨n,hn⟩:∃ n,(x::r).length=n:=⟨_,rfl⟩;have ah:r.length+1=n:=by rw[<- hn];rfl
  obtain⟨q,hq⟩:∃ q,n-1=q:=⟨_,rfl⟩;have a5:r.length=q:=by omega
  rw[hn]at hl hcap aw aP ⊢;rw[hq]at aw aP;have aT:∀ W,(Instr.slice 22 (.slice (some ⟨g,o,none⟩) n cap) (some (.int .i64 1)) none none).run Tryz.prog W=.ok (.slice aE q c') W:=aw;clear aw;unfold maxLen at hl;have ba:(n:Int)<=9223372036854775807:=by omega
  have bt:((n:Int)==0)=false:=by simp;omega
  have bs:(0:Int)<n:=by omega
  obtain⟨X,hX,aq⟩:=txt_of x.path;obtain⟨D,hD,_⟩:=txt_of x.data;obtain⟨kx,am⟩:∃ kx,x.kind=kx:=⟨_,rfl⟩;obtain⟨mx,ap⟩:∃ mx,x.mode=mx:=⟨_,rfl⟩
  have CL:Hid (∀ W,Below w.heap.size w W->W.cell? ⟨g,o,none⟩=some (.string X)/\W.cell? ⟨g,o+1,none⟩=some (.int .i64 kx)/\W.cell? ⟨g,o+2,none⟩=some (.string D)/\W.cell? ⟨g,o+3,none⟩=some (.int .i64 mx)):=hid (fun W hW=>by
   obtain⟨p,k,d,m⟩:=a6.below hg hW;rw[hX]at p;rw[hD]at d
   exact⟨p,by rw[<- am];exact k,d,by rw[<- ap];exact m⟩)
  obtain⟨e0,e1,e2,e3⟩:=CL.out w (Below.refl _ _);obtain⟨b2,ai⟩:∃ b,rightB x=b:=⟨_,rfl⟩
  have C2:Hid (∀ W,Calls Tryz.prog 114 #[.agg #[.string X,.int .i64 kx,.string D,.int .i64 mx]] W fun r w'=>r=.returned (.bool b2)/\Below W.heap.size W w'):=hid (fun W=>by
   have:=right_wide x W;unfold ndVal at this;rw[hX,hD,am,ap,ai]at this
   exact this)
  obtain⟨E,hE⟩:∃ E:Nat,checkG r=E:=⟨_,rfl⟩
  have C3:Hid (∀ W,Below w.heap.size w W->Calls Tryz.prog 53 #[.slice aE q c'] W fun r w'=>r=.returned (.int .i64 (E:Nat))/\Below W.heap.size W w'):=hid (fun W hW=>by
   have:=check_wide aE c' r W (HE.out.below hW) (bg.out W hW) (fun m hm=>hs m (List.mem_cons_of_mem _ hm)) (by unfold maxLen;omega) (by omega);rw[a5,hE]at this
   exact this)
  have HR:Hid (rightV (x::r)=(decide (x.path=[])&&b2&&decide (n<=1000)&&(decide (r=[])||(decide (kx=2)&&treeB r)))):=hid (by unfold rightV;simp only;rw[ai,ah,am]);by_cases hm:n<=1000
  ·have aK:¬(1000:Int)<n:=by omega
   have bp:decide ((1000:Int)<n)=false:=decide_eq_false aK;by_cases hp:x.path=[]
   ·have bf:X.toList.isEmpty=true:=by rw[toList_data,aq,hp];rfl
    cases b2 with
    | false =>
     have HF:Hid (rightV (x::r)=false):=hid (by rw[HR.out];simp);clear hX aq hD am ap ai a6 hn ah hl hcap hs h hp he hE hq a5 aj hm;go_enter Tryz.func123,Tryz.ntmps123;repeat (first|(go_at_call 114;refine(C2.out _).mono ?_;rintro r w2 ⟨rfl,hb⟩;simp only[];have W2:=hid hb;clear hb)|go_skip|go_guarded|go_step|go_upon)
     go_ret;exact⟨by rw[HF.out];rfl,W2.out⟩
    | true =>
     by_cases hk:kx=2
     ·have aZ:(kx==2)=true:=by simp[hk]
      obtain⟨b,hb⟩:∃ b,((E:Int)==0)=b:=⟨_,rfl⟩
      have HF:Hid (rightV (x::r)=b):=hid (by
       rw[HR.out,decide_eq_true hp,decide_eq_true hm,decide_eq_true hk,← hb,← hE];unfold checkG;by_cases hr:r=[]
       ·rw[hr];rfl
       ·rw[decide_eq_false hr];cases treeB r<;>simp)
      clear hX aq hD am ap ai a6 hn ah hl hcap hs h hp he hE hq a5 aj hm hk;go_enter Tryz.func123,Tryz.ntmps123;repeat (first|(go_at_call 114;refine(C2.out _).mono ?_;rintro r w2 ⟨rfl,ar⟩;simp only[];obtain⟨e4,e5,e6,e7⟩:=CL.out w2 ar;have W2:=hid ar;clear ar)|(go_at_call 53;refine(C3.out _ W2.out).mono ?_;rintro r w3 ⟨rfl,ar⟩;simp only[];have W3:=hid (Below.trans W2.out (ar.mono W2.out.size));clear ar)|go_skip|go_guarded|go_step|go_upon)
      go_ret;exact⟨by rw[HF.out];rfl,W3.out⟩
     ·have aZ:(kx==2)=false:=by simp[hk]
      obtain⟨b,hb⟩:∃ b,((n:Int)==1)=b:=⟨_,rfl⟩
      have HF:Hid (rightV (x::r)=b):=hid (by
       rw[HR.out,decide_eq_true hp,decide_eq_true hm,decide_eq_false hk,← hb];by_cases hr:r=[]
       ·rw[decide_eq_true hr];have:n=1:=by rw[<- ah,hr];rfl
        rw[this];rfl
       ·rw[decide_eq_false hr];have:0<r.length:=List.length_pos_iff.2 hr;have h2:((n:Int)==1)=false:=by simp;omega
        rw[h2];rfl)
      clear hX aq hD am ap ai a6 hn ah hl hcap hs h hp he hE hq a5 aj hm hk;go_enter Tryz.func123,Tryz.ntmps123;repeat (first|(go_at_call 114;refine(C2.out _).mono ?_;rintro r w2 ⟨rfl,ar⟩;simp only[];obtain⟨e4,e5,e6,e7⟩:=CL.out w2 ar;have W2:=hid ar;clear ar)|go_skip|go_guarded|go_step|go_upon)
      go_ret;exact⟨by rw[HF.out];rfl,W2.out⟩
   ·have bf:X.toList.isEmpty=false:=by rw[toList_data,aq];simpa using hp
    have HF:Hid (rightV (x::r)=false):=hid (by rw[HR.out,decide_eq_false hp];simp);clear hX aq hD am ap ai a6 hn ah hl hcap hs h hp he hE hq a5 aj hm;go_enter Tryz.func123,Tryz.ntmps123;repeat (first|go_skip|go_guarded|go_step|go_upon)
    go_ret;exact⟨by rw[HF.out];rfl,Below.refl _ _⟩
  ·have aK:(1000:Int)<n:=by omega
   have bp:decide ((1000:Int)<n)=true:=decide_eq_true aK;have HF:Hid (rightV (x::r)=false):=hid (by rw[HR.out,decide_eq_false hm];simp);clear hX aq hD am ap ai a6 hn ah hl hcap hs h he hE hq a5 aj hm;go_enter Tryz.func123,Tryz.ntmps123;repeat (first|go_skip|go_guarded|go_step|go_upon)
   go_ret;exact⟨by rw[HF.out];rfl,Below.refl _ _⟩
structure Wide(w:World)(ao:Option Addr)(ca:Nat)(ts:List Nd):Prop where
 lay:LayN w ao ts
 no:ao=none->ca=0
 cap:ts.length<=ca
 long:LongG ts
 max:ts.length<=maxLen
theorem Wide.nil(w:World):Wide w none 0 []:=⟨LayN.nil _ _,fun _=>rfl,Nat.le_refl _,fun n hn=>by simp at hn,by simp⟩
theorem Wide.below{w W:World}{ao:Option Addr}{ca:Nat}{ts:List Nd}(h:Wide w ao ca ts)(hb:Below w.heap.size w W):Wide W ao ca ts:=⟨h.lay.below hb,h.no,h.cap,h.long,h.max⟩
theorem Wide.tree{w:World}{ao:Option Addr}{ca:Nat}{ts:List Nd}(h:Wide w ao ca ts)(ht:Tree ts):Arg w ao ca ts:=⟨h.lay,h.no,h.cap,small_tree ht,by have:=ht.len;omega⟩
theorem Wide.val{w:World}{ao:Option Addr}{ca:Nat}{ts:List Nd}(h:Wide w ao ca ts)(ht:Val ts):Arg w ao ca ts:=⟨h.lay,h.no,h.cap,small_val ht,by have:=val_len ((val_iff ts).2 ht);omega⟩
theorem Wide.check{w:World}{ao:Option Addr}{ca:Nat}{ts:List Nd}(he:NF.Env w)(h:Wide w ao ca ts) :
  Calls Tryz.prog 53 #[.slice ao ts.length ca] w fun r w'=>r=.returned (.int .i64 (checkG ts:Nat))/\Below w.heap.size w w':=check_wide ao ca ts w he h.lay h.long h.max h.cap
end TW
open Go.ChangeShapes Go.WideShapes Go.ChangeAt
namespace TF
open OM TP TM TR TG TL TW
end TF
end
section
open Go.RowKit Go.Lib Go.BigFrame
namespace TW
open OM TP TM TR TG TL
theorem put_no(ao:Option Addr)(ca:Nat)(ts:List Nd)(p:List UInt8)(bo:Option Addr)(cb:Nat)(v:List Nd)(w:World)(he:NF.Env w)(hA:Wide w ao ca ts)(hB:Wide w bo cb v)(hp:p.length<=maxLen)
  (hno:treeB ts=true->rightV v=true->NP.pathL p=false) :
  Calls Tryz.prog 164 #[.slice ao ts.length ca,txt p,.slice bo v.length cb] w (PutPost (putL ts p v) w):=by
 have cC:=hA.check he;have cR:∀ W,Below w.heap.size w W->Calls Tryz.prog 123 #[.slice bo v.length cb] W fun r w'=>r=.returned (.bool (rightV v))/\Below W.heap.size W w':=fun W hW=>rightV_wide bo cb v W (he.below hW) (hB.below hW).lay hB.long hB.max hB.cap;obtain⟨S,hS,al⟩:=txt_of p;have cP:∀ W,Below w.heap.size w W->Calls Tryz.prog 60 #[.string S] W fun r w'=>r=.returned (.bool (NP.pathL p))/\Below W.heap.size W w':=fun W hW=>path_wide S p W (he.below hW) al hp;have a7:=checkG_zero ts;obtain⟨n,hn⟩:∃ n,ts.length=n:=⟨_,rfl⟩;obtain⟨m,hm⟩:∃ m,v.length=m:=⟨_,rfl⟩;rw[hn]at cC ⊢;rw[hm]at cR ⊢;rw[hS];obtain⟨E,hE⟩:∃ E:Nat,checkG ts=E:=⟨_,rfl⟩;obtain⟨bR,ax⟩:∃ b,rightV v=b:=⟨_,rfl⟩;obtain⟨bP,a4⟩:∃ b,NP.pathL p=b:=⟨_,rfl⟩;rw[hE]at cC a7;rw[ax]at cR;rw[a4]at cP
 have HP:Hid (putL ts p v=if treeB ts=false\/bR=false then([],60)else if bP=false then([],11)else putL ts p v):=hid (by
  by_cases a:treeB ts=false\/bR=false
  ·rw[if_pos a];unfold putL;rw[ax,if_pos a]
  ·rw[if_neg a];by_cases b:bP=false
   ·rw[if_pos b];unfold putL;rw[ax,a4,if_neg a,if_pos b]
   ·rw[if_neg b])
 have CC:=hid cC;have CR:=hid cR;have CP:=hid cP;clear cC cR cP hE hS al hn hm he hA hB hp;by_cases e1:(E:Int)=0
 ·have bh:((E:Int) != 0)=false:=by simp[e1]
  have ht:=a7.1 e1
  cases bR with
  | false =>
   have HF:=hid (HP.out.trans (if_pos (.inr rfl)));clear a7 e1 ax a4 hno;go_enter Tryz.func164,Tryz.ntmps164
   repeat (first
    | (go_at_call 53;refine CC.out.mono ?_;rintro r w1 ⟨rfl,hb⟩;simp only[];have B1:=hid hb;clear hb)
    | (go_at_call 123;refine OM.onB (CR.out _ B1.out) B1 ?_;intro w2 B2;simp only[])
    | go_skip|go_guarded|go_step|go_upon)
   go_ret2;exact PutPost.nil HF.out rfl B2.out
  | true =>
   cases bP with
   | false =>
    have HF:=hid ((HP.out.trans (if_neg (by rw[ht];simp))).trans (if_pos rfl));clear a7 e1 ax a4 hno;go_enter Tryz.func164,Tryz.ntmps164
    repeat (first
     | (go_at_call 53;refine CC.out.mono ?_;rintro r w1 ⟨rfl,hb⟩;simp only[];have B1:=hid hb;clear hb)
     | (go_at_call 123;refine OM.onB (CR.out _ B1.out) B1 ?_;intro w2 B2;simp only[])
     | (go_at_call 60;refine OM.onB (CP.out _ B2.out) B2 ?_;intro w3 B3;simp only[])
     | go_skip|go_guarded|go_step|go_upon)
    go_ret2;exact PutPost.nil HF.out rfl B3.out
   | true=>exact absurd (a4.symm.trans (hno ht ax)) (by simp)
 ·have bh:((E:Int) != 0)=true:=by simp;omega
  have HF:=hid (HP.out.trans (if_pos (.inl (by cases ht:treeB ts with|false=>rfl|true=>exact absurd (a7.2 ht) e1))));clear a7 e1 ax a4 hno;go_enter Tryz.func164,Tryz.ntmps164
  repeat (first
   | (go_at_call 53;refine CC.out.mono ?_;rintro r w1 ⟨rfl,hb⟩;simp only[];have B1:=hid hb;clear hb)
   | go_skip|go_guarded|go_step|go_upon)
  go_ret2;exact PutPost.nil HF.out rfl B1.out
theorem put_wide(ao:Option Addr)(ca:Nat)(ts:List Nd)(p:List UInt8)(bo:Option Addr)(cb:Nat)(v:List Nd)(w:World)(he:NF.Env w)(hA:Wide w ao ca ts)(hB:Wide w bo cb v)(hp:p.length<=maxLen) :
  Calls Tryz.prog 164 #[.slice ao ts.length ca,txt p,.slice bo v.length cb] w (PutPost (putL ts p v) w):=by
 by_cases h:treeB ts=true/\rightV v=true/\NP.pathL p=true
 ·exact TL.Arg.put he (hA.tree ((tree_iff ts).1 h.1)) (hB.val ((val_iff v).1 h.2.1)) (small_path h.2.2)
 ·exact put_no ao ca ts p bo cb v w he hA hB hp (fun h1 h2=>by
   cases h3:NP.pathL p with
   | false=>rfl
   | true=>exact absurd ⟨h1,h2,h3⟩ h)
end TW
end
end Go.Proofs.YtkmcjededpamnaaGreatDoor