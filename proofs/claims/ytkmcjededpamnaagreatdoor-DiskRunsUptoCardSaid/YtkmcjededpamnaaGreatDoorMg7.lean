import Derived.Test.YtkmcjededpamnaaGreatDoorMg5
import Derived.Test.YtkmcjededpamnaaGreatDoorMg2
import Derived.Lib.AppendZeros
import Derived.Lib.SliceRun
import Derived.Deep.RegionWith
set_option linter.all false
set_option maxRecDepth 100000
set_option maxHeartbeats 0
namespace Go.Proofs.YtkmcjededpamnaaGreatDoor
open List(mem_of_getElem? take_add_one map_append)
section
open Go.RowKit Go.Lib Go.BigFrame
namespace TG
open OM TP TM TR
theorem within_calls{ao:Option Addr}{cap:Nat}{ts:List Nd}{p:List UInt8}{w:World}(he:NF.Env w)(h:LayN w ao ts)(hs:SmallG ts)(hp:p.length<=1048576)(ht:treeB ts=true) :
  ∀ W,Below w.heap.size w W->Calls Tryz.prog 231 #[.slice ao ts.length cap,txt p] W (CutPost ts p W):=fun W hW =>
 within_any ao cap ts p W (he.below hW) (h.below hW) ((tree_iff ts).1 ht).sorted ((tree_iff ts).1 ht).path hs ((tree_iff ts).1 ht).len hp
end TG
end
section
open Go.RowKit Go.Lib Go.BigFrame
namespace TG
open OM TP TM TR
theorem trim_txt(X S T:ByteArray)(l p:List UInt8)(hX:X.data.toList=l)(hS:S.data.toList=p)(hT:T.data.toList=Lib.trimPrefix l p)(W:World) :
  Calls Tryz.prog 103 #[.string X,.string S] W fun e w'=>e=.returned (.string T)/\w'=W:=by
 have:=Tryz.strings_TrimPrefix X S W;rw[hX,hS,← hT,show(⟨T.data.toList.toArray⟩:ByteArray)=T by apply ByteArray.ext;simp]at this;exact this
end TG
end
section
open Go.RowKit Go.Lib Go.BigFrame
namespace TG
open OM TP TM TR
theorem nodes_app(a b:List Nd):nodesC (a++b)=nodesC a++nodesC b:=by
 unfold nodesC;rw[List.flatMap_append]
structure Pc where
 a:Option Addr
 c:Nat
 l:List Nd
structure PcOk(w:World)(e:Pc):Prop where
 lay:LayN w e.a e.l
 nil:e.a=none->e.c=0
theorem PcOk.below{w w':World}{e:Pc}(h:PcOk w e)(hb:Below w.heap.size w w'):PcOk w' e:=⟨h.lay.below hb,h.nil⟩
theorem PcOk.none{w:World}{e:Pc}(h:PcOk w e)(ha:e.a=none):e.l=[]:=by
 rcases Nat.eq_zero_or_pos e.l.length with h0|h0
 ·exact List.length_eq_zero_iff.1 h0
 ·obtain⟨g,o,h',_⟩:=h.lay h0;rw[ha]at h';cases h'
def tot(L:List Pc)(k:Nat):Nat:=((L.take k).map (·.l.length)).sum
def cat(L:List Pc)(k:Nat):List Nd:=(L.take k).flatMap (·.l)
theorem tot_succ{L:List Pc}{k:Nat}{e:Pc}(h:L[k]?=some e):tot L (k+1)=tot L k+e.l.length:=by
 unfold tot;rw[take_add_one,h,Option.toList_some,map_append,List.sum_append];simp
theorem cat_succ{L:List Pc}{k:Nat}{e:Pc}(h:L[k]?=some e):cat L (k+1)=cat L k++e.l:=by
 unfold cat;rw[take_add_one,h,Option.toList_some,List.flatMap_append];simp
theorem cat_len(L:List Pc)(k:Nat):(cat L k).length=tot L k:=by
 unfold cat tot;rw[List.length_flatMap]
theorem tot_le(L:List Pc)(k:Nat):tot L k<=tot L L.length:=by
 unfold tot;rw[List.take_length]
 conv=>rhs;rw[<- List.take_append_drop k L]
 rw[map_append,List.sum_append];omega
theorem cat_end{L:List Pc}{k:Nat}(h:L.length<=k):cat L k=L.flatMap (·.l):=by
 unfold cat;rw[List.take_of_length_le h]
theorem clone_any(ao:Option Addr)(cap:Nat)(v:List Nd)(w:World)(h:LayN w ao v)(hno:ao=none->cap=0)(hl:v.length<=1000) :
  Calls Tryz.prog 71 #[.slice ao v.length cap] w (AtPost v w):=by
 obtain⟨i0,hi,al,a5,aG⟩:=info_parts infoN
 cases ao with
 | none =>
  have h0:v=[]:=(PcOk.none (e:=⟨none,cap,v⟩) ⟨h,hno⟩ rfl);subst h0;have hc:=hno rfl;subst hc;have q0:=fun W=>Lib.run_eql_slice_nil (P:=Tryz.prog) W 22 _ none 0 0 0 0 Tryz.underlying22;go_enter Tryz.func71,Tryz.ntmps71;repeat (first|go_skip|go_guarded|go_step|go_upon)
  go_ret;exact AtPost.nil rfl (Below.refl _ _)
 | some ad =>
  have ay:Hid (∀ W,Below w.heap.size w W->∀(j:Nat) (u:Value),(nodesC v)[j]?=some u->W.cell? (ad.add j)=some u):=hid (fun W hW=>lay_cells (h.below hW));have aL:Hid ((nodesC v).length=v.length*4):=hid (nodes_len v);have bn:Hid (∀ u∈nodesC v,u.oneCell'=true):=hid (nds_one v);have aX:Hid ((w.alloc (.cells #[] 45)).ownsRow w.heap.size 45 4 (.slice (some ⟨w.heap.size,0,none⟩) 0 0) 0 []):=hid (World.ownsRow_made w #[] 0 (Nat.le_refl _) (Nat.zero_le _) rfl);have B0:Hid (Below w.heap.size w (w.alloc (.cells #[] 45))):=hid ((Below.refl _ _).alloc (Nat.le_refl _) _);obtain⟨n,hn⟩:∃ n,v.length=n:=⟨_,rfl⟩;have HN:=hid hn;rw[hn]at hl aL ⊢;have q0:=fun W=>Lib.run_eql_slice_nil (P:=Tryz.prog) W 22 _ (some ad) n cap 0 0 Tryz.underlying22;clear h hno hn;go_enter Tryz.func71,Tryz.ntmps71
  repeat (first
   | (at_builtin;refine wpList_append_own _ rfl _ _ 22 rfl w.heap.size 45 i0 (ndVal zeroN) 4 48 Tryz.underlying22 hi al a5 aG rfl (by decide) _ _ _ rfl aX.out ad n cap (nodesC v) rfl aL.out (ay.out _ B0.out) bn.out (by unfold maxLen;omega) (by omega) (by simp) ?_;intro v' w5 aj ac av;have bk:=hid aj;have ba:=hid (B0.out.grown ac (by simp) (fun j hj=>(aX.out.lt j hj).1));clear aj ac av)
   | go_skip|go_guarded|go_step|go_upon)
  go_ret;refine⟨_,rfl,?_,ba.out⟩;have:=bk.out;rw[Nat.zero_add,List.nil_append]at this;rw[HN.out];exact this
theorem growL_any(n:Nat)(hn:n<=10000)(w:World) :
  Calls Tryz.prog 255 #[.slice none 0 0,.int .i64 n] w (AtPost [] w):=by
 obtain⟨i0,hi,al,a5,aG⟩:=info_parts infoN;by_cases h0:n=0
 ·subst h0;go_enter Tryz.func255,Tryz.ntmps255;repeat (first|go_skip|go_guarded|go_step|go_upon)
  go_ret;exact AtPost.nil rfl (Below.refl _ _)
 ·have bu:(0:Int)<n:=by omega
  have bf:¬(n:Int)<0:=by omega
  have aM:=fun ty=>run_append_nil_zeros w 175 3 ty 45 i0 (ndVal zeroN) .i64 .i64 Tryz.underlying175 Tryz.underlying3 hi al n (by omega) (by rw[a5];decide) (by omega) (by rw[aG];omega);have bv:n<=grownCap w n 0 45:=grownCap_ge w _ _ _;have bj:=grownCap_le_maxLen w n 0 45 (by unfold maxLen;omega);obtain⟨G,hG⟩:∃ G,grownCap w n 0 45=G:=⟨_,rfl⟩;rw[hG]at aM bv bj;obtain⟨aF,a6⟩:∃ aF,Builtin.zeroCells (ndVal zeroN).cells n++Builtin.zeroCells (ndVal zeroN).cells (G-n)=aF:=⟨_,rfl⟩
  have aW:aF.size=G*4:=by
   rw[<- a6,Array.size_append,size_zeroCells,size_zeroCells,show(ndVal zeroN).cells.size=4 from rfl];omega
  rw[a6]at aM;have aX:Hid ((w.drew.alloc (.cells aF 45)).ownsRow w.heap.size 45 4 (.slice (some ⟨w.heap.size,0,none⟩) 0 G) 0 []):=hid (World.ownsRow_made w.drew aF G (Nat.le_refl _) bj aW);have B0:Hid (Below w.heap.size w (w.drew.alloc (.cells aF 45))):=hid ((Below.drew (Below.refl _ _)).alloc (Nat.le_refl _) _);have ck:(0:Int)<=G:=by omega
  have cj:=fun W=>sl_to ndsl_list (some ⟨w.heap.size,0,none⟩) n 0 G 0 rfl (Nat.zero_le _) W;have cd:=fun W=>sl_to ndsl_list none 0 0 0 0 rfl (Nat.zero_le _) W;have b6:=hid aM;clear a6 hG aW hi al a5 aG aM h0 bv bj;go_enter Tryz.func255,Tryz.ntmps255
  repeat (first
   | (at_builtin;refine wpList_append_run _ rfl _ _ _ _ rfl _ _ rfl rfl _ _ (b6.out _) ?_)
   | go_skip|go_guarded|go_step|go_upon)
  go_ret;exact⟨_,rfl,aX.out,B0.out⟩
theorem catL_any(g c:Nat)(L:List Pc)(w:World)(hg:g<w.heap.size)(ab:∀ j e,L[j]?=some e->w.cell? ⟨g,j,none⟩=some (.slice e.a e.l.length e.c))(hok:∀ e∈L,PcOk w e)(hsum:tot L L.length<=10000)(hlen:L.length<=10) :
  Calls Tryz.prog 233 #[.slice (some ⟨g,0,none⟩) L.length c] w (AtPost (L.flatMap (·.l)) w):=by
 obtain⟨i0,hi,al,a5,aG⟩:=info_parts infoN;have CG:Hid (∀ n:Nat,n<=10000->∀ W,Calls Tryz.prog 255 #[.slice none 0 0,.int .i64 n] W (AtPost [] W)):=hid (fun n hn W=>growL_any n hn W);have bR:=hid hok;have HC:=hid ab;have bg:=hid hsum;obtain⟨m,hm⟩:∃ m,L.length=m:=⟨_,rfl⟩;have HM:=hid hm;rw[hm]at hlen bg ⊢;have aZ:Hid (∀ k,tot L k<=10000):=hid (fun k=>Nat.le_trans (tot_le L k) hsum);clear ab hok hsum hm;go_enter Tryz.func233,Tryz.ntmps233;repeat (first|go_skip|go_guarded|go_step|go_upon)
 go_loopw [11,3] (fun s11 s3 wr=>∃ k:Nat,s11=.int .i64 k/\s3=.int .i64 (tot L k:Nat)/\k<=m/\Below w.heap.size w wr) (fun s11 _ _=>m-(RowKit.intOf s11).toNat)
 case atStart=>exact⟨0,rfl,rfl,Nat.zero_le _,Below.refl _ _⟩
 case round =>
  obtain⟨k,rfl,rfl,hk,hb⟩:=hrel;have HB:=hid hb;by_cases hlt:k<m
  ·have aA:(k:Int)<m:=by omega
   obtain⟨e,he⟩:∃ e,L[k]?=some e:=⟨L[k]'(by rw[HM.out];exact hlt),List.getElem?_eq_getElem _⟩;have c0:=(hb.cell (p:=⟨g,k,none⟩) hg).trans (HC.out k e he);have HT:=hid (tot_succ he);have aq:=aZ.out (k+1);have aU:=aZ.out k;rw[HT.out]at aq;obtain⟨T,hT⟩:∃ T,tot L k=T:=⟨_,rfl⟩;rw[hT]at aq aU HT ⊢;obtain⟨a,ca,l⟩:=e;simp only at c0 aq HT;obtain⟨q,hq⟩:∃ q,l.length=q:=⟨_,rfl⟩;rw[hq]at c0 aq HT;have b7:(T:Int)+(q:Int)<=10000:=by omega
   have bf:¬(T:Int)+(q:Int)<0:=by omega
   clear hb he hT hq hlt;repeat (first|go_skip|go_guarded|go_step|go_upon)
   exact⟨⟨k+1,by go_num,by rw[HT.out];go_num,by omega,HB.out⟩,by simp[RowKit.intOf];omega⟩
  ·have aA:¬(k:Int)<m:=by omega
   obtain rfl:k=m:=by omega
   obtain⟨T,hT⟩:∃ T,tot L k=T:=⟨_,rfl⟩;have aU:=aZ.out k;rw[hT]at aU ⊢;clear hb hlt hT hk;repeat (first|go_skip|go_guarded|go_step|go_upon)
   refine(CG.out T aU _).mono ?_;rintro r w1 ⟨u,rfl,ag,hb⟩;simp only[];have b9:=hid (owns_base ag w.heap.size HB.out.size);have ak:=hid (Below.trans HB.out (hb.mono HB.out.size));clear ag hb HB;repeat (first|go_skip|go_guarded|go_step|go_upon)
   go_loopw [27,6] (fun s27 s6 wr=>∃ j:Nat,s27=.int .i64 j/\j<=k/\wr.ownsRow w.heap.size 45 4 s6 (cat L j).length (nodesC (cat L j))/\Below w.heap.size w wr) (fun s27 _ _=>k-(RowKit.intOf s27).toNat)
   case atStart=>exact⟨0,rfl,Nat.zero_le _,b9.out,ak.out⟩
   case round =>
    obtain⟨j,rfl,hj,ho,hb⟩:=hrel;have HB:=hid hb;have HO:=hid ho;have aK:=hb.size;clear ho;by_cases hlt:j<k
    ·have aA:(j:Int)<k:=by omega
     obtain⟨e,he⟩:∃ e,L[j]?=some e:=⟨L[j]'(by rw[HM.out];exact hlt),List.getElem?_eq_getElem _⟩;have c0:=(hb.cell (p:=⟨g,j,none⟩) hg).trans (HC.out j e he);have aJ:=(bR.out e (mem_of_getElem? he)).below hb;have HT:=hid (tot_succ he);have HK:=hid (cat_succ he);have bS:=hid (cat_len L j);have aq:=aZ.out (j+1);rw[HT.out]at aq;obtain⟨a,ca,l⟩:=e;simp only at c0 aq HT HK
     cases a with
     | none =>
      have bO:l=[]:=aJ.none rfl;have b2:ca=0:=aJ.nil rfl;subst bO b2;have bN:Hid (cat L (j+1)=cat L j):=hid (by rw[HK.out,List.append_nil]);clear hb he aJ hlt HK aq
      repeat (first
       | (at_builtin;refine wpList_append_own_none rfl _ _ 175 rfl w.heap.size 45 i0 4 Tryz.underlying175 hi _ _ _ rfl HO.out rfl ?_)
       | go_skip|go_guarded|go_step|go_upon)
      exact⟨⟨j+1,by go_num,by omega,by rw[bN.out];exact HO.out,HB.out⟩,by simp[RowKit.intOf];omega⟩
     | some ad =>
      have ay:=hid (lay_cells aJ.lay);have aL:Hid ((nodesC l).length=l.length*4):=hid (nodes_len l);have bn:Hid (∀ u∈nodesC l,u.oneCell'=true):=hid (nds_one l);have br:Hid ((cat L (j+1)).length=(cat L j).length+l.length):=hid (by rw[HK.out,List.length_append]);simp only at ay;obtain⟨q,hq⟩:∃ q,l.length=q:=⟨_,rfl⟩;rw[hq]at c0 aq aL br;have bY:(cat L j).length+q<=10000:=by rw[bS.out];exact aq
      clear hb he aJ hlt hq aq
      repeat (first
       | (at_builtin;refine wpList_append_own _ rfl _ _ 175 rfl w.heap.size 45 i0 (ndVal zeroN) 4 48 Tryz.underlying175 hi al a5 aG rfl (by decide) _ _ _ rfl HO.out ad q ca (nodesC l) rfl aL.out ay.out bn.out (by unfold maxLen;omega) (by omega) aK ?_;intro v' w5 aj ac av;have bk:=hid aj;have ba:=hid (HB.out.grown ac aK (fun j hj=>(HO.out.lt j hj).1));clear aj ac av)
       | go_skip|go_guarded|go_step|go_upon)
      refine⟨⟨j+1,by go_num,by omega,?_,ba.out⟩,by simp[RowKit.intOf];omega⟩;rw[br.out,HK.out,nodes_app];exact bk.out
    ·have aA:¬(j:Int)<k:=by omega
     have HK:Hid (cat L j=L.flatMap (·.l)):=hid (cat_end (by rw[HM.out];omega));clear hb hlt;repeat (first|go_skip|go_guarded|go_step|go_upon)
     go_ret;exact⟨_,rfl,by rw[<- HK.out];exact HO.out,HB.out⟩
end TG
end
section
open Go.RowKit Go.Lib Go.BigFrame
namespace TG
open OM TP TM TR
def undK(p:List UInt8)(v:List Nd)(k:Nat):List Nd:=(v.take k).map (underN p)++v.drop k
theorem undK_zero(p:List UInt8)(v:List Nd):undK p v 0=v:=by unfold undK;simp
theorem undK_end{p:List UInt8}{v:List Nd}{k:Nat}(h:v.length<=k):undK p v k=v.map (underN p):=by
 unfold undK;rw[List.take_of_length_le h,List.drop_eq_nil_of_le h,List.append_nil]
theorem undK_two{p:List UInt8}{v:List Nd}{k:Nat}{x:Nd}(hx:v[k]?=some x):undK p v k=(v.take k).map (underN p)++x::v.drop (k+1)/\undK p v (k+1)=(v.take k).map (underN p)++underN p x::v.drop (k+1)/\((v.take k).map (underN p)).length=k:=by
 obtain⟨hk,e⟩:=List.getElem?_eq_some_iff.1 hx;refine⟨?_,?_,by rw[List.length_map,List.length_take];omega⟩
 ·unfold undK;rw[List.drop_eq_getElem_cons hk,e]
 ·unfold undK;rw[take_add_one,hx,Option.toList_some,map_append,List.append_assoc];rfl
theorem undK_at{p:List UInt8}{v:List Nd}{k:Nat}{x:Nd}(hx:v[k]?=some x):(undK p v k)[k]?=some x:=by
 obtain⟨e,_,hl⟩:=undK_two (p:=p) hx;rw[e,List.getElem?_append_right (by omega),hl,Nat.sub_self];rfl
theorem undK_succ{p:List UInt8}{v:List Nd}{k:Nat}{x:Nd}(hx:v[k]?=some x):nodesC (undK p v (k+1))=(nodesC (undK p v k)).set (k*4) (txt (underN p x).path):=by
 obtain⟨e1,e2,hl⟩:=undK_two (p:=p) hx;rw[e1,e2,nodes_app,nodes_app,List.set_append_right _ _ (by rw[nodes_len,hl];exact Nat.le_refl _),nodes_len,hl,Nat.sub_self];rfl
theorem suffix_txt(X T:ByteArray)(l:List UInt8)(hX:X.data.toList=l)(hT:T.data.toList=Lib.trimSuffix l [47])(hl:X.size<=9223372036854775807)(W:World) :
  Calls Tryz.prog 230 #[.string X,.string ⟨#[47]⟩] W fun e w'=>e=.returned (.string T)/\w'=W:=by
 have:=Tryz.strings_TrimSuffix X ⟨#[47]⟩ W hl;rw[hX,← hT,show(⟨T.data.toList.toArray⟩:ByteArray)=T by apply ByteArray.ext;simp]at this;exact this
theorem under_any(bo:Option Addr)(cb:Nat)(v:List Nd)(p:List UInt8)(w:World)(h:LayN w bo v)(hno:bo=none->cb=0)(hs:SmallG v)(hl:v.length<=1000)(hp:p.length<=1048576) :
  Calls Tryz.prog 198 #[txt p,.slice bo v.length cb] w (AtPost (v.map (underN p)) w):=by
 have CC:=hid (clone_any bo cb v w h hno hl);obtain⟨m,hm⟩:∃ m,v.length=m:=⟨_,rfl⟩;have HM:=hid hm;have bA:=hid hs;obtain⟨S,hS,aC⟩:=txt_of p;have bM:=hid aC;have bV:S.size<=1048576:=by rw[size_eq,aC];exact hp
 rw[hm]at CC hl ⊢;rw[hS];obtain⟨S1,bG⟩:∃ S1:ByteArray,S++⟨#[47]⟩=S1:=⟨_,rfl⟩;have a9:S1.data.toList=p++[47]:=by rw[<- bG];simp[aC]
 have bP:=hid a9;have b3:S1.size<=1048577:=by rw[size_eq,a9,List.length_append];simp;omega
 have b5:S.size+1<=9223372036854775807:=by omega
 clear h hno hs hp hm hS aC a9;go_enter Tryz.func198,Tryz.ntmps198;repeat (first|go_skip|go_guarded|go_step|go_upon)
 refine CC.out.mono ?_;rintro r w1 ⟨u,rfl,ag,hb⟩;simp only[];have ak:=hid hb;rw[HM.out]at ag;obtain⟨b8,c5,rfl,_⟩:=owns_view ag;have bI:=hid ag;have bi:(m:Int)<=1000:=by omega
 clear hb ag;repeat (first|go_skip|go_guarded|go_step|go_upon)
 go_loopw [11] (fun s11 wr=>∃ k:Nat,s11=.int .i64 k/\k<=m/\wr.ownsRow w.heap.size 45 4 (.slice b8 m c5) m (nodesC (undK p v k))/\Below w.heap.size w wr) (fun s11 _=>m-(RowKit.intOf s11).toNat)
 case atStart=>exact⟨0,rfl,Nat.zero_le _,by rw[undK_zero];exact bI.out,ak.out⟩
 case round =>
  obtain⟨k,rfl,hk,ho,hb⟩:=hrel;have HB:=hid hb;clear hb;by_cases hlt:k<m
  ·have aA:(k:Int)<m:=by omega
   obtain⟨bX,c6,e6,a2⟩:=owns_view ho;obtain⟨g,bC,hg,bT,ab⟩:=a2 (by omega);simp only[Value.slice.injEq,true_and]at e6;obtain⟨rfl,rfl⟩:=e6;subst bC;obtain⟨x,hx⟩:∃ x,v[k]?=some x:=⟨v[k]'(by rw[HM.out];exact hlt),List.getElem?_eq_getElem _⟩;obtain⟨n0,n1,n2,n3⟩:=nodes_at _ k x (undK_at (p:=p) hx);have c0:=(ab (k*4) (by omega)).trans n0;have bW:=ho.frozenAt (k*4);obtain⟨Q,hQ,aT⟩:=txt_of x.path;rw[hQ]at c0;obtain⟨T,hT,bw⟩:=txt_of (underN p x).path;have bE:=hid (ho.stored (k*4) (.string T));have bZ:Q.size<=1048576:=by rw[size_eq,aT];exact(bA.out x (mem_of_getElem? hx)).1
   obtain⟨S2,bH⟩:∃ S2:ByteArray,S1++Q=S2:=⟨_,rfl⟩;have aD:S2.data.toList=p++47::x.path:=by rw[<- bH];simp[bP.out,aT]
   have aN:S2.size<=9223372036854775807:=by rw[size_eq,aD,List.length_append,List.length_cons];have h1:=bM.out;have h2:=aT;have h3:=size_eq S;have h4:=size_eq Q;rw[h1]at h3;rw[h2]at h4;omega
   have CT:=hid (suffix_txt S2 T (p++47::x.path) aD bw aN);have cc:S1.size+Q.size<=9223372036854775807:=by omega
   have HK:=hid (undK_succ (p:=p) hx);rw[hT]at HK;clear ho ab hx n0 n1 n2 n3 hQ aT hT bw aD aN hlt a2
   repeat (first
    | (go_at_call 230;refine(CT.out _).mono ?_;rintro r w3 ⟨rfl,rfl⟩;simp only[])
    | go_skip|go_guarded|go_step|go_upon)
   refine⟨⟨k+1,by go_num,by omega,?_,HB.out.setCell (p:=⟨g,k*4,none⟩) bT _⟩,by simp[RowKit.intOf];omega⟩;rw[HK.out];exact bE.out.1
  ·have aA:¬(k:Int)<m:=by omega
   have HK:Hid (undK p v k=v.map (underN p)):=hid (undK_end (by rw[HM.out];omega));have HO:=hid ho;clear hlt ho;repeat (first|go_skip|go_guarded|go_step|go_upon)
   go_ret;refine⟨_,rfl,?_,HB.out⟩;rw[List.length_map,HM.out,← HK.out];exact HO.out
def badP(v:List Nd):Bool:=v.any fun n=>!NP.pathL n.path
theorem index_any(bo:Option Addr)(cb:Nat)(v:List Nd)(w:World)(he:NF.Env w)(h:LayN w bo v)(hs:SmallG v)(hl:v.length<=1000) :
  Calls Tryz.prog 249 #[.slice bo v.length cb,.func (.func 232) #[] #[]] w fun r w'=>∃ z:Int,r=.returned (.int .i64 z)/\decide (0<=z)=badP v/\Below w.heap.size w w':=by
 have eg:∀ args w,(callFunc 232 args).run Tryz.prog w=.ok (.enter 232 args) w:=enters_of Tryz.func232 (by kernel_rfl) rfl;obtain⟨m,hm⟩:∃ m,v.length=m:=⟨_,rfl⟩;have HM:=hid hm;have HL:=hid h;have HS:=hid hs;have HE:=hid he;rw[hm]at hl ⊢;have bi:(m:Int)<=1000:=by omega
 clear h hs hm he;go_enter Tryz.func249,Tryz.ntmps249;repeat (first|go_skip|go_guarded|go_step|go_upon)
 go_loopw [8] (fun s8 wr=>∃ k:Nat,s8=.int .i64 k/\k<=m/\badP (v.take k)=false/\Below w.heap.size w wr) (fun s8 _=>m-(RowKit.intOf s8).toNat)
 case atStart=>exact⟨0,rfl,Nat.zero_le _,rfl,Below.refl _ _⟩
 case round =>
  obtain⟨k,rfl,hk,aQ,hb⟩:=hrel;have HB:=hid hb;have bx:=hid aQ;have aK:=hb.size;have bm:=HL.out.below hb;clear aQ;by_cases hlt:k<m
  ·have aA:(k:Int)<m:=by omega
   obtain⟨g,o,rfl,hg,ab⟩:=bm (by rw[HM.out];omega);obtain⟨x,hx⟩:∃ x,v[k]?=some x:=⟨v[k]'(by rw[HM.out];exact hlt),List.getElem?_eq_getElem _⟩;obtain⟨c0,c1,c2,c3⟩:=ab k x hx;obtain⟨X,hX,_⟩:=txt_of x.path;obtain⟨D,hD,_⟩:=txt_of x.data;rw[hX]at c0;rw[hD]at c2;have cx:=noPath_any x wr (HE.out.below hb) (HS.out x (mem_of_getElem? hx)).1;unfold ndVal at cx;rw[hX,hD]at cx;obtain⟨b,a3⟩:∃ b,NP.pathL x.path=b:=⟨_,rfl⟩;have bt:=hid a3;rw[a3]at cx;have HX:=hid hx;have CX:=hid cx;clear hb ab hx hX hD cx a3 bm hlt
   cases b with
   | true =>
    have ah:Hid (badP (v.take (k+1))=false):=hid (by
     unfold badP;rw[take_add_one,HX.out,Option.toList_some,List.any_append];have:=bx.out;unfold badP at this;rw[this]
     simp[bt.out])
    repeat (first|(go_at_fn 232;refine CX.out.mono ?_;rintro r w1 ⟨rfl,hb⟩;simp only[];have B1:=hid (Below.trans HB.out (hb.mono aK));clear hb)|go_skip|go_guarded|go_step|go_upon)
    exact⟨⟨k+1,by go_num,by omega,ah.out,B1.out⟩,by simp[RowKit.intOf];omega⟩
   | false =>
    have HF:Hid (badP v=true):=hid (by
     unfold badP;rw[List.any_eq_true]
     exact⟨x,mem_of_getElem? HX.out,by rw[bt.out];rfl⟩)
    repeat (first|(go_at_fn 232;refine CX.out.mono ?_;rintro r w1 ⟨rfl,hb⟩;simp only[];have B1:=hid (Below.trans HB.out (hb.mono aK));clear hb)|go_skip|go_guarded|go_step|go_upon)
    go_ret;exact⟨_,rfl,by rw[HF.out];simp,B1.out⟩
  ·have aA:¬(k:Int)<m:=by omega
   have HF:Hid (badP v=false):=hid (by
    have:=bx.out;rw[List.take_of_length_le (by rw[HM.out];omega)]at this
    exact this)
   clear hlt hb bm;repeat (first|go_skip|go_guarded|go_step|go_upon)
   go_ret;exact⟨_,rfl,by rw[HF.out];simp,HB.out⟩
theorem contains_any(bo:Option Addr)(cb:Nat)(v:List Nd)(w:World)(he:NF.Env w)(h:LayN w bo v)(hs:SmallG v)(hl:v.length<=1000) :
  Calls Tryz.prog 216 #[.slice bo v.length cb,.func (.func 232) #[] #[]] w fun r w'=>r=.returned (.bool (badP v))/\Below w.heap.size w w':=by
 have CI:=hid (index_any bo cb v w he h hs hl);obtain⟨m,hm⟩:∃ m,v.length=m:=⟨_,rfl⟩;rw[hm]at CI ⊢;clear h hs hl hm he;go_enter Tryz.func216,Tryz.ntmps216;repeat (first|(go_at_call 249;refine CI.out.mono ?_;rintro r w1 ⟨z,rfl,hz,hb⟩;simp only[];have HZ:=hid hz;have B1:=hid hb;clear hb hz)|go_skip|go_guarded|go_step|go_upon)
 go_ret;exact⟨by rw[<- HZ.out];rfl,B1.out⟩
end TG
end
section
open Go.RowKit Go.Lib Go.BigFrame
namespace TG
open OM TP TM TR
theorem box3(w:World)(a b c:Value)(t:TypeId) :
  (w.alloc (.cells #[a,b,c] t)).cell? ⟨w.heap.size,0,none⟩=some a/\(w.alloc (.cells #[a,b,c] t)).cell? ⟨w.heap.size,1,none⟩=some b/\(w.alloc (.cells #[a,b,c] t)).cell? ⟨w.heap.size,2,none⟩=some c:=by
 have h:=heap_alloc_new w (.cells #[a,b,c] t);exact⟨by rw[cell_of_row _ _ 0 _ _ _ h];rfl,by rw[cell_of_row _ _ 1 _ _ _ h];rfl,by rw[cell_of_row _ _ 2 _ _ _ h];rfl⟩
def faultL(ts:List Nd)(p:List UInt8)(cs:List Nd):Nat :=
 if cs≠[]/\dirB ts (NP.parentL p)=false then 62
 else if badP cs=true then 11
 else if 1000<(outL ts p cs).length then 32 else 0
structure ChIn(w:World)(ao:Option Addr)(ca:Nat)(ts:List Nd)(p:List UInt8)(bo:Option Addr)(cb:Nat)(cs:List Nd):Prop where
 env:NF.Env w
 layT:LayN w ao ts
 layC:LayN w bo cs
 tree:treeB ts=true
 smallT:SmallG ts
 smallC:SmallG cs
 lenC:cs.length<=1000
 lenP:p.length<=1048576
 capT:ts.length<=ca
 noT:ao=none->ca=0
 noC:bo=none->cb=0
theorem ChIn.below{w W:World}{ao:Option Addr}{ca:Nat}{ts:List Nd}{p:List UInt8}{bo:Option Addr}{cb:Nat}{cs:List Nd}(h:ChIn w ao ca ts p bo cb cs)(hb:Below w.heap.size w W):ChIn W ao ca ts p bo cb cs :=
 ⟨h.env.below hb,h.layT.below hb,h.layC.below hb,h.tree,h.smallT,h.smallC,h.lenC,h.lenP,h.capT,h.noT,h.noC⟩
theorem fault_any(ao:Option Addr)(ca:Nat)(ts:List Nd)(p:List UInt8)(bo:Option Addr)(cb:Nat)(cs:List Nd)(w:World)(h:ChIn w ao ca ts p bo cb cs)(S:ByteArray)(hS:txt p=.string S) :
  Calls Tryz.prog 199 #[.agg #[.slice ao ts.length ca,.string S,.slice bo cs.length cb]] w fun r w'=>r=.returned (.int .i64 (faultL ts p cs:Nat))/\Below w.heap.size w w':=by
 have ht:=(tree_iff ts).1 h.tree;have aC:S.data.toList=p:=by unfold txt at hS;injection hS with hS;rw[<- hS]
 obtain⟨U,hU,_⟩:=txt_of (NP.parentL p);obtain⟨bd,bh⟩:∃ b,dirB ts (NP.parentL p)=b:=⟨_,rfl⟩;obtain⟨bb,a3⟩:∃ b,badP cs=b:=⟨_,rfl⟩;have CW:Hid (∀ W,Below w.heap.size w W->Calls Tryz.prog 231 #[.slice ao ts.length ca,.string S] W (CutPost ts p W)):=hid (by rw[<- hS];exact within_calls h.env h.layT h.smallT h.lenP h.tree)
 have CP:Hid (∀ W,Below w.heap.size w W->Calls Tryz.prog 124 #[.string S] W fun e w'=>e=.returned (.string U)/\Below W.heap.size W w'):=hid (fun W hW=>by
  have:=parent_txt S p W (h.env.below hW) aC h.lenP;rw[hU]at this
  exact this)
 have CD:Hid (∀ W,Below w.heap.size w W->Calls Tryz.prog 163 #[.slice ao ts.length ca,.string U] W fun r w'=>r=.returned (.bool bd)/\Below W.heap.size W w'):=hid (fun W hW=>by
  have:=hasDir_any ao ca ts (NP.parentL p) W (h.layT.below hW) ht.sorted h.smallT ht.len (Nat.le_trans (parent_len p) h.lenP);rw[hU,bh]at this
  exact this)
 have CF:Hid (∀ W,Below w.heap.size w W->Calls Tryz.prog 216 #[.slice bo cs.length cb,.func (.func 232) #[] #[]] W fun r w'=>r=.returned (.bool bb)/\Below W.heap.size W w'):=hid (fun W hW=>by
  have:=contains_any bo cb cs W (h.env.below hW) (h.layC.below hW) h.smallC h.lenC;rw[a3]at this
  exact this)
 have ap:Hid (∀ i j,Cut ts p i j->(outL ts p cs).length=ts.length-(j-i)+cs.length):=hid (fun i j hc=>hc.len ht.path cs);have aR:0<cs.length↔cs≠[]:=List.length_pos_iff;have aV:Hid (faultL ts p cs=if cs≠[]/\bd=false then 62 else if bb=true then 11 else if 1000<(outL ts p cs).length then 32 else 0):=hid (by unfold faultL;rw[bh,a3]);have hn:=ht.len;have hm:=h.lenC;obtain⟨F,hF⟩:∃ F,faultL ts p cs=F:=⟨_,rfl⟩;obtain⟨n,a8⟩:∃ n,ts.length=n:=⟨_,rfl⟩;obtain⟨m,aH⟩:∃ m,cs.length=m:=⟨_,rfl⟩;obtain⟨O,hO⟩:∃ O,(outL ts p cs).length=O:=⟨_,rfl⟩;have ax:=hid a8;rw[hF]at aV ⊢;rw[a8]at CW CD ap hn ⊢;rw[aH]at CF ap hm aR ⊢;rw[hO]at ap aV;have bi:(m:Int)<=1000:=by omega
 have bu:(n:Int)<=1000:=by omega
 obtain⟨w0,a0⟩:∃ w0,w.alloc (.cells #[.slice ao n ca,.string S,.slice bo m cb] 237)=w0:=⟨_,rfl⟩;have aO:Below w.heap.size w w0:=by rw[<- a0];exact(Below.refl _ _).alloc (Nat.le_refl _) _
 obtain⟨t0,t1,t2⟩:=box3 w (.slice ao n ca) (.string S) (.slice bo m cb) 237;rw[a0]at t0 t1 t2;have al:w.heap.size<w0.heap.size:=by rw[<- a0];simp
 have aB:=hid aO
 have aw:Hid (∀ W,Below w0.heap.size w0 W->W.cell? ⟨w.heap.size,0,none⟩=some (.slice ao n ca)/\W.cell? ⟨w.heap.size,1,none⟩=some (.string S)/\W.cell? ⟨w.heap.size,2,none⟩=some (.slice bo m cb)):=hid (fun W hW =>
  ⟨(hW.cell (p:=⟨w.heap.size,0,none⟩) al).trans t0,(hW.cell (p:=⟨w.heap.size,1,none⟩) al).trans t1,(hW.cell (p:=⟨w.heap.size,2,none⟩) al).trans t2⟩)
 clear h ht hS aC hU bh a3 hF a8 aH hO aO;go_enter Tryz.func199,Tryz.ntmps199;repeat (first|go_skip|go_guarded|go_step|go_upon)
 refine(CW.out _ aB.out).mono ?_;rintro r w1 ⟨i,j,rfl,ai,hb⟩;simp only[];have bK:=ai.ij;have bs:j<=n:=by have:=ai.le;have:=ax.out;omega
 have bB:=ap.out i j ai;obtain⟨q,hq⟩:∃ q,j-i=q:=⟨_,rfl⟩;obtain⟨rr,bL⟩:∃ rr,n-q=rr:=⟨_,rfl⟩;have b7:(j:Int)-(i:Int)=(q:Int):=by omega
 have aM:(n:Int)-(q:Int)=(rr:Int):=by omega
 have b1:O=rr+m:=by omega
 have az:=hid hb;have ak:=hid (Below.trans aB.out (hb.mono aB.out.size));have am:Hid (F=if cs≠[]/\bd=false then 62 else if bb=true then 11 else if 1000<rr+m then 32 else 0):=hid (by rw[aV.out,b1]);obtain⟨s0,s1,s2⟩:=aw.out w1 hb;have ci:rr<=1000:=by omega
 have cg:(rr:Int)+(m:Int)<=2000:=by omega
 clear hb ai bB hq bL b1 t0 t1 t2 a0 aV ap;have bz:=cell_regrown s0;have bp:=cell_regrown s1;have bq:=cell_regrown s2;by_cases hm1:0<m
 ·have be:(0:Int)<m:=by omega
  have bQ:decide ((0:Int)<m)=true:=decide_eq_true be;have aY:=hid (aR.1 hm1);have D1:=hid (reg_g (w:=w1) (f:=124) (args:=#[.string S]) (v:=.string U) (fun W hW=>CP.out W (Below.trans ak.out (hW.mono ak.out.size))));have D2:=hid (reg_g (w:=w1) (f:=163) (args:=#[.slice ao n ca,.string U]) (v:=.bool bd) (fun W hW=>CD.out W (Below.trans ak.out (hW.mono ak.out.size))));have bU:decide (0<m)=true:=decide_eq_true hm1;clear aR;repeat (first|go_skip|go_guarded|go_step|go_upon)
  with_reducible refine wp_region_quiet_below (by kernel_rfl) (by kernel_rfl) ?_
  repeat (go_big_quiet_step (first|(go_at_call 124;exact D1.out _ _)|(go_at_call 163;exact D2.out _ _)))
  refine wpQuiet_nil ?_;intro _ hw';obtain⟨⟨dq,a4⟩,a7⟩:=hw';subst a7;have W2:Hid (Below w1.heap.size w1 (Go.Sort.grow (redrawn w1 dq) a4)):=hid (below_regrown w1 dq a4);clear bz bp bq s0 s1 s2;generalize Go.Sort.grow (redrawn w1 dq) a4=w2 at W2 ⊢;have ah:=hid (Below.trans ak.out (W2.out.mono ak.out.size));have aa:=hid (Below.trans az.out (W2.out.mono az.out.size));obtain⟨s0,s1,s2⟩:=aw.out w2 aa.out
  cases bd with
  | false =>
   have HF:Hid (F=62):=hid (by rw[am.out,if_pos ⟨aY.out,rfl⟩]);repeat (first|go_skip|go_guarded|go_step|go_upon)
   go_ret;exact⟨by rw[HF.out];rfl,ah.out⟩
  | true =>
   cases bb with
   | true =>
    have HF:Hid (F=11):=hid (by rw[am.out,if_neg (by simp),if_pos rfl]);repeat (first|(go_at_call 216;refine(CF.out _ ah.out).mono ?_;rintro r w3 ⟨rfl,hb⟩;simp only[];obtain⟨s3,s4,s5⟩:=aw.out w3 (Below.trans aa.out (hb.mono aa.out.size));have ar:=hid (Below.trans ah.out (hb.mono ah.out.size));clear hb)|go_skip|go_guarded|go_step|go_upon)
    go_ret;exact⟨by rw[HF.out];rfl,ar.out⟩
   | false =>
    by_cases hgt:1000<rr+m
    ·have au:(1000:Int)<(rr:Int)+(m:Int):=by omega
     have aI:decide ((1000:Int)<(rr:Int)+(m:Int))=true:=decide_eq_true au;have HF:Hid (F=32):=hid (by rw[am.out,if_neg (by simp),if_neg (by simp),if_pos hgt]);clear hgt;repeat (first|(go_at_call 216;refine(CF.out _ ah.out).mono ?_;rintro r w3 ⟨rfl,hb⟩;simp only[];obtain⟨s3,s4,s5⟩:=aw.out w3 (Below.trans aa.out (hb.mono aa.out.size));have ar:=hid (Below.trans ah.out (hb.mono ah.out.size));clear hb)|go_skip|go_guarded|go_step|go_upon)
     go_ret;exact⟨by rw[HF.out];rfl,ar.out⟩
    ·have au:¬(1000:Int)<(rr:Int)+(m:Int):=by omega
     have aI:decide ((1000:Int)<(rr:Int)+(m:Int))=false:=decide_eq_false au;have HF:Hid (F=0):=hid (by rw[am.out,if_neg (by simp),if_neg (by simp),if_neg hgt]);clear hgt;repeat (first|(go_at_call 216;refine(CF.out _ ah.out).mono ?_;rintro r w3 ⟨rfl,hb⟩;simp only[];obtain⟨s3,s4,s5⟩:=aw.out w3 (Below.trans aa.out (hb.mono aa.out.size));have ar:=hid (Below.trans ah.out (hb.mono ah.out.size));clear hb)|go_skip|go_guarded|go_step|go_upon)
     go_ret;exact⟨by rw[HF.out];rfl,ar.out⟩
 ·have be:¬(0:Int)<m:=by omega
  have bQ:decide ((0:Int)<m)=false:=decide_eq_false be
  have aY:Hid (cs=[]):=hid (by
   cases aW:cs with
   | nil=>rfl
   | cons a b=>exact absurd (aR.2 (by rw[aW];simp)) hm1)
  have bU:decide (0<m)=false:=decide_eq_false hm1;clear aR;repeat (first|go_skip|go_guarded|go_step|go_upon)
  with_reducible refine wp_region_quiet_below (by kernel_rfl) (by kernel_rfl) ?_
  repeat (go_big_quiet_step (fail))
  refine wpQuiet_nil ?_;intro _ hw';obtain⟨⟨dq,a4⟩,a7⟩:=hw';subst a7;have W2:Hid (Below w1.heap.size w1 (Go.Sort.grow (redrawn w1 dq) a4)):=hid (below_regrown w1 dq a4);clear bz bp bq s0 s1 s2;generalize Go.Sort.grow (redrawn w1 dq) a4=w2 at W2 ⊢;have ah:=hid (Below.trans ak.out (W2.out.mono ak.out.size));have aa:=hid (Below.trans az.out (W2.out.mono az.out.size));obtain⟨s0,s1,s2⟩:=aw.out w2 aa.out
  cases bb with
  | true =>
   have HF:Hid (F=11):=hid (by rw[am.out,if_neg (by rw[aY.out];simp),if_pos rfl]);repeat (first|(go_at_call 216;refine(CF.out _ ah.out).mono ?_;rintro r w3 ⟨rfl,hb⟩;simp only[];obtain⟨s3,s4,s5⟩:=aw.out w3 (Below.trans aa.out (hb.mono aa.out.size));have ar:=hid (Below.trans ah.out (hb.mono ah.out.size));clear hb)|go_skip|go_guarded|go_step|go_upon)
   go_ret;exact⟨by rw[HF.out];rfl,ar.out⟩
  | false =>
   by_cases hgt:1000<rr+m
   ·exact absurd hgt (by omega)
   ·have au:¬(1000:Int)<(rr:Int)+(m:Int):=by omega
    have aI:decide ((1000:Int)<(rr:Int)+(m:Int))=false:=decide_eq_false au;have HF:Hid (F=0):=hid (by rw[am.out,if_neg (by rw[aY.out];simp),if_neg (by simp),if_neg hgt]);clear hgt;repeat (first|(go_at_call 216;refine(CF.out _ ah.out).mono ?_;rintro r w3 ⟨rfl,hb⟩;simp only[];obtain⟨s3,s4,s5⟩:=aw.out w3 (Below.trans aa.out (hb.mono aa.out.size));have ar:=hid (Below.trans ah.out (hb.mono ah.out.size));clear hb)|go_skip|go_guarded|go_step|go_upon)
    go_ret;exact⟨by rw[HF.out];rfl,ar.out⟩
end TG
end
section
open Go.RowKit Go.Lib Go.BigFrame
namespace TG
open OM TP TM TR
theorem done_any(ao:Option Addr)(ca:Nat)(ts:List Nd)(p:List UInt8)(bo:Option Addr)(cb:Nat)(cs:List Nd)(w:World)(h:ChIn w ao ca ts p bo cb cs)(S:ByteArray)(hS:txt p=.string S) :
  Calls Tryz.prog 200 #[.agg #[.slice ao ts.length ca,.string S,.slice bo cs.length cb]] w fun r w'=>∃ i j,Cut ts p i j/\AtPost (ts.take i++(cs++ts.drop j)) w r w':=by
 have ht:=(tree_iff ts).1 h.tree;have CW:Hid (∀ W,Below w.heap.size w W->Calls Tryz.prog 231 #[.slice ao ts.length ca,.string S] W (CutPost ts p W)):=hid (by rw[<- hS];exact within_calls h.env h.layT h.smallT h.lenP h.tree);have bF:=hid h;have hn:=ht.len;have hm:=h.lenC;have aS:=h.capT;obtain⟨n,a8⟩:∃ n,ts.length=n:=⟨_,rfl⟩;obtain⟨m,aH⟩:∃ m,cs.length=m:=⟨_,rfl⟩;have ax:=hid a8;have b0:=hid aH;rw[a8]at CW hn aS ⊢;rw[aH]at hm ⊢;have bi:(m:Int)<=1000:=by omega
 have bu:(n:Int)<=1000:=by omega
 obtain⟨w0,a0⟩:∃ w0,w.alloc (.cells #[.slice ao n ca,.string S,.slice bo m cb] 237)=w0:=⟨_,rfl⟩;have aO:Below w.heap.size w w0:=by rw[<- a0];exact(Below.refl _ _).alloc (Nat.le_refl _) _
 obtain⟨t0,t1,t2⟩:=box3 w (.slice ao n ca) (.string S) (.slice bo m cb) 237;rw[a0]at t0 t1 t2;have al:w.heap.size<w0.heap.size:=by rw[<- a0];simp
 have aB:=hid aO
 have aw:Hid (∀ W,Below w0.heap.size w0 W->W.cell? ⟨w.heap.size,0,none⟩=some (.slice ao n ca)/\W.cell? ⟨w.heap.size,1,none⟩=some (.string S)/\W.cell? ⟨w.heap.size,2,none⟩=some (.slice bo m cb)):=hid (fun W hW =>
  ⟨(hW.cell (p:=⟨w.heap.size,0,none⟩) al).trans t0,(hW.cell (p:=⟨w.heap.size,1,none⟩) al).trans t1,(hW.cell (p:=⟨w.heap.size,2,none⟩) al).trans t2⟩)
 clear h ht hS a8 aH aO;go_enter Tryz.func200,Tryz.ntmps200;repeat (first|go_skip|go_guarded|go_step|go_upon)
 refine(CW.out _ aB.out).mono ?_;rintro r w1 ⟨i,j,rfl,ai,hb⟩;simp only[];have bK:=ai.ij;have bs:j<=n:=by have:=ai.le;have:=ax.out;omega
 have bl:=hid ai;have ak:=hid (Below.trans aB.out (hb.mono aB.out.size));obtain⟨s0,s1,s2⟩:=aw.out w1 hb;have a5:w.heap.size<w1.heap.size:=Nat.lt_of_lt_of_le al hb.size;have b4:=sl_to ndsl_list ao n i ca i rfl (by omega);obtain⟨aE,c',bc,a1,_,aP⟩:=sl_from ndsl_list ao ts j ca (by rw[ax.out];exact bs) (by rw[ax.out];exact aS);obtain⟨q,hq⟩:∃ q,n-j=q:=⟨_,rfl⟩;rw[ax.out,hq]at bc
 have CC:Hid (∀ W h,Below w1.heap.size w1 W->h<W.heap.size->W.cell? ⟨h,0,none⟩=some (.slice ao i ca)->W.cell? ⟨h,1,none⟩=some (.slice bo m cb)->W.cell? ⟨h,2,none⟩=some (.slice aE q c') ->
   Calls Tryz.prog 233 #[.slice (some ⟨h,0,none⟩) 3 3] W (AtPost (ts.take i++(cs++ts.drop j)) W)):=hid (fun W h hW hh k0 k1 k2=>by
  have bD:=Below.trans ak.out (hW.mono ak.out.size);have hI:=bF.out.below bD;have l0:(ts.take i).length=i:=by rw[List.length_take,ax.out];omega
  have l2:(ts.drop j).length=q:=by rw[List.length_drop,ax.out];omega
  have:=catL_any h 3 [⟨ao,ca,ts.take i⟩,⟨bo,cb,cs⟩,⟨aE,c',ts.drop j⟩] W hh (fun y e he=>?_) (fun e he=>?_) ?_ (by simp)
  ·simpa using this
  ·match y with
   | 0=>simp at he;subst he;simp only;rw[l0];exact k0
   | 1=>simp at he;subst he;simp only;rw[b0.out];exact k1
   | 2=>simp at he;subst he;simp only;rw[l2];exact k2
   | y+3=>simp at he
  ·simp only[List.mem_cons,List.not_mem_nil,or_false]at he;rcases he with rfl|rfl|rfl
   ·exact⟨hI.layT.take i,hI.noT⟩
   ·exact⟨hI.layC,hI.noC⟩
   ·exact⟨a1 W hI.layT,aP hI.noT⟩
  ·simp[tot,ax.out,b0.out]
   omega)
 have CX:Hid (Calls Tryz.prog 233 #[.slice (some ⟨w1.heap.size,0,none⟩) 3 3] ((w1.alloc (.cells #[.slice ao i ca,.slice bo m cb,.slice aE q c'] 175)).drew) (AtPost (ts.take i++(cs++ts.drop j)) ((w1.alloc (.cells #[.slice ao i ca,.slice bo m cb,.slice aE q c'] 175)).drew))):=hid (by
  obtain⟨k0,k1,k2⟩:=box3 w1 (.slice ao i ca) (.slice bo m cb) (.slice aE q c') 175
  exact CC.out _ _ (Below.drew ((Below.refl _ _).alloc (Nat.le_refl _) _)) (by show w1.heap.size<(w1.alloc _).heap.size;simp) k0 k1 k2)
 have BX:Hid (Below w.heap.size w ((w1.alloc (.cells #[.slice ao i ca,.slice bo m cb,.slice aE q c'] 175)).drew)):=hid (Below.drew (ak.out.alloc ak.out.size _));clear hb ai a1 aP t0 t1 t2 a0 CW;repeat (first|go_skip|go_guarded|go_step|go_upon)
 go_region_with (first|(go_at_call 233;refine CX.out.mono ?_;rintro r w3 ⟨u,rfl,ag,hb⟩;simp only[];have bJ:=hid (owns_base ag w.heap.size BX.out.size);have ar:=hid (Below.trans BX.out (hb.mono BX.out.size));clear hb ag))
 all_goals (repeat (first|go_skip|go_guarded|go_step|go_upon))
 all_goals go_ret
 all_goals exact⟨i,j,bl.out,_,rfl,bJ.out,ar.out⟩
end TG
end
end Go.Proofs.YtkmcjededpamnaaGreatDoor
