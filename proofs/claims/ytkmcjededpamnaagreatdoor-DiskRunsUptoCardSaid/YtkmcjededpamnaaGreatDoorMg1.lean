import Derived.Lib.ValidU
import Derived.Lib.Split
import Derived.Lib.SplitLaws
import Derived.Lib.Strings
import Derived.Lib.Join
import Derived.Lib.IndexMore
import Derived.Lib.IndexBytes
import Derived.Lib.LastIndexByte
import Derived.Test.YtkmcjededpamnaaGreatDoorChecked
import Derived.Lib.OthersKept
import Derived.Laws.NewBlocks
import Derived.WalkMore
import Derived.Lib.Hide
import Derived.OwnWalk
import Derived.Laws.AppendOwn
import Derived.Laws.OwnMore
set_option linter.all false
set_option maxRecDepth 100000
set_option maxHeartbeats 0
namespace Go.Proofs.YtkmcjededpamnaaGreatDoor
open List(length_append getElem?_eq_getElem length_take mem_of_getElem? mem_map mem_filter take_add_one mem_singleton length_cons map_append mem_append_left length_drop append_nil take_length map_cons filter_append take_append_drop mem_cons_self mem_cons_of_mem getElem_of_mem rel_of_pairwise_cons exists_cons_of_ne_nil drop_eq_getElem_cons drop_left all_eq_true cons_append prefix_refl head?_cons getElem_drop)
section
namespace NP
open Go
def noneOf(l:List UInt8):Bool:=!(l.contains 47||l.contains 0)
def nameL(l:List UInt8):Bool:=decide (l≠[])&&decide (l.length<=64)&&decide (l≠[46])&&decide (l≠[46,46])&&Lib.validD l&&noneOf l
def allL(ls:List (List UInt8)):Bool:=ls.all nameL
def pathL(l:List UInt8):Bool:=decide (l.length<=400)&&decide (l.count 47<16)&&allL (Lib.split l [47])
def rk(c:UInt8):Nat:=if c=47 then 0 else c.toNat+1
def cmpN(x y:Nat):Int:=if x<y then -1 else if y<x then 1 else 0
def ordN:List Nat->List Nat->Int
 | [],[]=>0
 | [],_::_=>-1
 | _::_,[]=>1
 | x::xs,y::ys=>if x<y then -1 else if y<x then 1 else ordN xs ys
def ordL(a b:List UInt8):Int:=ordN (a.map rk) (b.map rk)
def restOk(q r:List UInt8):Bool:=decide (q=[])||decide (r=[])||decide (r.head?=some 47)
def withinL(p q:List UInt8):Bool:=pathL p&&(Lib.hasPrefix p q&&restOk q (p.drop q.length))
theorem rk_inj{x y:UInt8}(h:rk x=rk y):x=y:=by
 unfold rk at h;split at h<;>split at h
 ·simp_all
 ·omega
 ·omega
 ·apply UInt8.toNat_inj.1;omega
theorem map_rk_inj:∀ {a b:List UInt8},a.map rk=b.map rk->a=b
 | [],[],_=>rfl
 | [],_::_,h=>by simp at h
 | _::_,[],h=>by simp at h
 | x::a,y::b,h=>by
  simp only[map_cons,List.cons.injEq]at h;rw[rk_inj h.1,map_rk_inj h.2]
theorem ordN_cases:∀ a b:List Nat,ordN a b=-1\/ordN a b=0\/ordN a b=1
 | [],[]=>by simp[ordN]
 | [],_::_=>by simp[ordN]
 | _::_,[]=>by simp[ordN]
 | x::a,y::b=>by
  unfold ordN;split
  ·simp
  ·split
   ·simp
   ·exact ordN_cases a b
theorem ordN_swap:∀ a b:List Nat,ordN b a=-ordN a b
 | [],[]=>by simp[ordN]
 | [],_::_=>by simp[ordN]
 | _::_,[]=>by simp[ordN]
 | x::a,y::b=>by
  unfold ordN;by_cases h:x<y
  ·rw[if_pos h,if_neg (by omega),if_pos h];rfl
  ·by_cases h2:y<x
   ·rw[if_pos h2,if_neg h,if_pos h2]
   ·rw[if_neg h2,if_neg h,if_neg h,if_neg h2];exact ordN_swap a b
theorem ordN_self:∀ a:List Nat,ordN a a=0
 | []=>rfl
 | x::a=>by unfold ordN;rw[if_neg (by omega),if_neg (by omega)];exact ordN_self a
theorem ordN_eq:∀ {a b:List Nat},ordN a b=0->a=b
 | [],[],_=>rfl
 | [],_::_,h=>by simp[ordN]at h
 | _::_,[],h=>by simp[ordN]at h
 | x::a,y::b,h=>by
  unfold ordN at h;split at h
  ·omega
  ·split at h
   ·omega
   ·have:x=y:=by omega
    rw[this,ordN_eq h]
theorem ordN_trans:∀ {a b c:List Nat},ordN a b<=0->ordN b c<=0->ordN a c<=0
 | [],_,[],_,_=>by simp[ordN]
 | [],_,_::_,_,_=>by simp[ordN]
 | _::_,[],_,h,_=>by simp[ordN]at h
 | _::_,_::_,[],_,h=>by simp[ordN]at h
 | x::a,y::b,z::c,h,k=>by
  unfold ordN at h k ⊢;by_cases h1:x<z
  ·rw[if_pos h1];omega
  ·rw[if_neg h1];by_cases hxy:x<y
   ·have a2:z<y:=by omega
    rw[if_neg (by omega),if_pos a2]at k;omega
   ·rw[if_neg hxy]at h;by_cases hyx:y<x
    ·rw[if_pos hyx]at h;omega
    ·rw[if_neg hyx]at h;have e:x=y:=by omega
     subst e;rw[if_neg h1]at k;by_cases hzx:z<x
     ·rw[if_pos hzx]at k;omega
     ·rw[if_neg hzx]at k ⊢;exact ordN_trans h k
theorem ordL_cases(a b:List UInt8):ordL a b=-1\/ordL a b=0\/ordL a b=1:=ordN_cases _ _
theorem ordL_swap(a b:List UInt8):ordL b a=-ordL a b:=ordN_swap _ _
theorem ordL_zero(a b:List UInt8):ordL a b=0↔a=b:=⟨fun h=>map_rk_inj (ordN_eq h),fun h=>by subst h;exact ordN_self _⟩
theorem ordL_trans{a b c:List UInt8}(h:ordL a b<=0)(k:ordL b c<=0):ordL a c<=0:=ordN_trans h k
theorem ordL_lt{a b c:List UInt8}(h:ordL a b<0)(k:ordL b c<=0):ordL a c<0:=by
 have h1:=ordL_trans (Int.le_of_lt h) k;rcases ordL_cases a c with e|e|e
 ·omega
 ·have:=(ordL_zero a c).1 e;subst this;have:=ordL_swap a b;omega
 ·omega
theorem ordN_append:∀(p a b:List Nat),ordN (p++a) (p++b)=ordN a b
 | [],_,_=>rfl
 | x::p,a,b=>by
  simp only[cons_append];rw[ordN,if_neg (by omega),if_neg (by omega)];exact ordN_append p a b
theorem ordL_append(p a b:List UInt8):ordL (p++a) (p++b)=ordL a b:=by
 unfold ordL;rw[map_append,map_append,ordN_append]
theorem ordL_miss{a b:List UInt8}{i:Nat}{x y:UInt8}(h:a.take i=b.take i)(ha:a[i]?=some x)(hb:b[i]?=some y)(aa:x≠y) :
  ordL a b=cmpN (rk x) (rk y):=by
 obtain⟨hi,aq⟩:=List.getElem?_eq_some_iff.1 ha;obtain⟨hj,ag⟩:=List.getElem?_eq_some_iff.1 hb;have ea:a=a.take i++x::a.drop (i+1):=by rw[<- aq,← drop_eq_getElem_cons hi,take_append_drop]
 have eb:b=a.take i++y::b.drop (i+1):=by rw[h,← ag,← drop_eq_getElem_cons hj,take_append_drop]
 rw[ea,eb,ordL_append];have hr:rk x≠rk y:=fun e=>aa (rk_inj e);simp only[ordL,map_cons,ordN,cmpN];split
 ·rfl
 ·rw[if_pos (by omega),if_pos (by omega)]
theorem ordL_end{a b:List UInt8}{m:Nat}(hm:m=min a.length b.length)(h:a.take m=b.take m):ordL a b=cmpN a.length b.length:=by
 unfold cmpN;by_cases h1:a.length<b.length
 ·have e1:m=a.length:=by omega
  rw[e1,take_length]at h;have eb:b=a++b.drop a.length:=by conv=>lhs;rw[<- take_append_drop a.length b,← h]
  rw[if_pos h1];have hl:b.drop a.length≠[]:=by intro e;have:=congrArg List.length e;simp at this;omega
  obtain⟨z,r,hz⟩:=exists_cons_of_ne_nil hl;have:=ordL_append a [] (b.drop a.length);rw[append_nil,← eb,hz]at this;rw[this];rfl
 ·by_cases h2:b.length<a.length
  ·have e1:m=b.length:=by omega
   rw[e1,take_length]at h;have ea:a=b++a.drop b.length:=by conv=>lhs;rw[<- take_append_drop b.length a,h]
   rw[if_neg h1,if_pos h2];have hl:a.drop b.length≠[]:=by intro e;have:=congrArg List.length e;simp at this;omega
   obtain⟨z,r,hz⟩:=exists_cons_of_ne_nil hl;have:=ordL_append b (a.drop b.length) [];rw[append_nil,← ea,hz]at this;rw[this];rfl
  ·rw[if_neg h1,if_neg h2];have e1:m=a.length:=by omega
   have e2:a.length=b.length:=by omega
   rw[e1,take_length,e2,take_length]at h;exact(ordL_zero a b).2 h
theorem between{a b c:List UInt8}(hb:pathL b=true)(hw:withinL c a=true)(hx:ordL a b<0)(hy:ordL b c<0):withinL b a=true:=by
 unfold withinL at hw ⊢;simp only[Bool.and_eq_true]at hw;obtain⟨_,hp,hr⟩:=hw;unfold Lib.hasPrefix at hp ⊢;rw[List.isPrefixOf_iff_prefix]at hp;obtain⟨r,rfl⟩:=hp;rw[drop_left]at hr;rw[hb,Bool.true_and];by_cases hpre:a <+: b
 ·obtain⟨s,rfl⟩:=hpre;rw[Bool.and_eq_true,List.isPrefixOf_iff_prefix];refine⟨⟨s,rfl⟩,?_⟩;rw[drop_left];rw[ordL_append]at hy;unfold restOk at hr ⊢;simp only[Bool.or_eq_true,decide_eq_true_eq]at hr ⊢;rcases hr with (hr|hr)|hr
  ·exact .inl (.inl hr)
  ·subst hr
   cases s with
   | nil=>exact .inl (.inr rfl)
   | cons z s=>simp[ordL,ordN]at hy
  ·cases r with
   | nil=>simp at hr
   | cons w r =>
    simp only[head?_cons,Option.some.injEq]at hr;subst hr
    cases s with
    | nil=>exact .inl (.inr rfl)
    | cons z s =>
     refine .inr ?_;by_cases hz:z=47
     ·simp[hz]
     ·exfalso;have h0:rk 47=0:=rfl;have h1:0<rk z:=by unfold rk;rw[if_neg hz];omega
      simp only[ordL,map_cons,ordN]at hy;rw[h0,if_neg (by omega),if_pos h1]at hy;omega
 ·-- a and b part at a place that both have: so b and a++r part there
  exfalso
  have ak:∀(a b r:List UInt8),¬ a <+: b->ordL a b<0->¬ ordL b (a++r)<0:=by
   intro a
   induction a with
   | nil=>intro b r h _;exact absurd (List.nil_prefix) h
   | cons x a ih =>
    intro b r h h1 h2
    cases b with
    | nil=>simp[ordL,ordN]at h1
    | cons y b =>
     simp only[ordL,map_cons,ordN,cons_append]at h1 h2;by_cases e1:rk x<rk y
     ·rw[if_neg (by omega),if_pos e1]at h2;omega
     ·rw[if_neg e1]at h1;by_cases e2:rk y<rk x
      ·rw[if_pos e2]at h1;omega
      ·rw[if_neg e2]at h1;have e:x=y:=rk_inj (by omega);subst e;rw[if_neg (by omega),if_neg (by omega)]at h2;exact ih b r (fun hp=>h (by obtain⟨t,rfl⟩:=hp;exact⟨t,rfl⟩)) h1 h2
  exact ak a b r hpre hx hy
end NP
end
section
namespace NP
open Go
def cutOn:List UInt8->List (List UInt8)
 | []=>[[]]
 | x::r=>if x=47 then []::cutOn r else match cutOn r with
  | []=>[[x]]
  | h::t=>(x::h)::t
theorem cutOn_ne(l:List UInt8):cutOn l≠[]:=by
 cases l with
 | nil=>simp[cutOn]
 | cons x r =>
  unfold cutOn;split
  ·simp
  ·split<;>simp
theorem index_cons_ne(x:UInt8)(r:List UInt8)(h:x≠47):Lib.index (x::r) [47]=if Lib.index r [47]=-1 then -1 else Lib.index r [47]+1:=by
 rw[Lib.index_one,Lib.index_one];rw[Lib.indexByte];have hx:(x==47)=false:=by simpa using h
 simp[hx]
theorem index_cons_eq(r:List UInt8):Lib.index (47::r) [47]=0:=by
 rw[Lib.index_one,Lib.indexByte];simp
theorem split_cons_eq(r:List UInt8):Lib.split (47::r) [47]=[]::Lib.split r [47]:=by
 unfold Lib.split;rw[Lib.count_cons_eq,Nat.add_comm,Lib.splitK,index_cons_eq];rfl
theorem split_cons_ne(x:UInt8)(r:List UInt8)(h:x≠47):∃ a t,Lib.split r [47]=a::t/\Lib.split (x::r) [47]=(x::a)::t:=by
 unfold Lib.split;rw[Lib.count_cons_ne x 47 r h]
 cases Lib.count r [47]with
 | zero=>exact⟨r,[],rfl,rfl⟩
 | succ k =>
  rw[Lib.splitK,Lib.splitK,index_cons_ne x r h];have a9:=Lib.index_ge r [47];by_cases hm:Lib.index r [47]=-1
  ·rw[hm];exact⟨r,[],rfl,rfl⟩
  ·obtain⟨i,hi⟩:∃ i:Nat,Lib.index r [47]=i:=⟨(Lib.index r [47]).toNat,by omega⟩;rw[hi]at hm ⊢;have e1:(((i:Nat):Int)==-1)=false:=by rw[beq_eq_false_iff_ne];omega
   have e2:(((i:Nat):Int)+1==-1)=false:=by rw[beq_eq_false_iff_ne];omega
   have e3:(((i:Nat):Int)+1).toNat=i+1:=by omega
   rw[if_neg (by rw[e1];simp),if_neg (show ¬((i:Int)=-1) by omega),if_neg (by rw[e2];simp),e3];exact⟨_,_,rfl,by simp⟩
theorem split_eq:∀ l:List UInt8,Lib.split l [47]=cutOn l
 | []=>rfl
 | x::r=>by
  by_cases h:x=47
  ·subst h;rw[split_cons_eq,split_eq r];simp[cutOn]
  ·obtain⟨a,t,h1,h2⟩:=split_cons_ne x r h;rw[h2];rw[split_eq r]at h1;unfold cutOn;rw[if_neg h,h1]
theorem cutOn_length:∀ l:List UInt8,(cutOn l).length=l.count 47+1
 | []=>rfl
 | x::r=>by
  have ih:=cutOn_length r;unfold cutOn;by_cases h:x=47
  ·subst h;simp[ih]
  ·rw[if_neg h,List.count_cons_of_ne h];split
   ·rename_i e;exact absurd e (cutOn_ne r)
   ·rename_i e;rw[e]at ih;simpa using ih
theorem cutOn_join:∀ l:List UInt8,Lib.join (cutOn l) [47]=l
 | []=>by simp[cutOn,Lib.join_one]
 | x::r=>by
  have ih:=cutOn_join r;unfold cutOn;by_cases h:x=47
  ·subst h;rw[if_pos rfl,Lib.join_cons];obtain⟨a,t,e⟩:=exists_cons_of_ne_nil (cutOn_ne r);rw[e]at ih ⊢;rw[Lib.join_cons]at ih;simp[Lib.joinTail]at ih ⊢;exact ih
  ·rw[if_neg h];split
   ·rename_i e;exact absurd e (cutOn_ne r)
   ·rename_i e;rw[e,Lib.join_cons]at ih;rw[Lib.join_cons,cons_append,ih]
theorem cutOn_none:∀ {l:List UInt8},47 ∉ l->cutOn l=[l]
 | [],_=>rfl
 | x::r,h=>by
  have hx:x≠47:=by rintro rfl;simp at h
  have hr:47 ∉ r:=fun e=>h (by simp[e]);unfold cutOn;rw[if_neg hx,cutOn_none hr]
theorem cutOn_snoc:∀ {u t:List UInt8},47 ∉ t->cutOn (u++47::t)=cutOn u++[t]
 | [],t,h=>by
  show cutOn (47::t)=_;unfold cutOn;rw[if_pos rfl,cutOn_none h];rfl
 | x::u,t,h=>by
  have ih:=cutOn_snoc (u:=u) h;show cutOn (x::(u++47::t))=_;unfold cutOn;rw[ih];by_cases hx:x=47
  ·rw[if_pos hx,if_pos hx];rfl
  ·rw[if_neg hx,if_neg hx];obtain⟨a,r,e⟩:=exists_cons_of_ne_nil (cutOn_ne u);rw[e];rfl
def lastL(l:List UInt8):List UInt8:=(l.reverse.takeWhile (·≠47)).reverse
def upL(l:List UInt8):List UInt8:=((l.reverse.dropWhile (·≠47)).drop 1).reverse
theorem rev_all{t:List UInt8}(h:47 ∉ t):∀ x∈t.reverse,(decide (x≠47))=true:=by
 intro x hx;simp only[List.mem_reverse]at hx;simp only[ne_eq,decide_eq_true_eq];rintro rfl;exact h hx
theorem lastL_none{l:List UInt8}(h:47 ∉ l):lastL l=l:=by
 unfold lastL;have:=List.takeWhile_append_of_pos (l₂:=[]) (rev_all h);rw[append_nil,List.takeWhile_nil,append_nil]at this;rw[this,List.reverse_reverse]
theorem upL_none{l:List UInt8}(h:47 ∉ l):upL l=[]:=by
 unfold upL;have:=List.dropWhile_append_of_pos (l₂:=[]) (rev_all h);rw[append_nil,List.dropWhile_nil]at this;rw[this];rfl
theorem rev_cut(u t:List UInt8)(h:47 ∉ t):(u++47::t).reverse.takeWhile (·≠47)=t.reverse/\(u++47::t).reverse.dropWhile (·≠47)=47::u.reverse:=by
 have e:(u++47::t).reverse=t.reverse++47::u.reverse:=by simp
 rw[e];rw[List.takeWhile_append_of_pos (rev_all h),List.dropWhile_append_of_pos (rev_all h)];simp
theorem lastL_snoc{u t:List UInt8}(h:47 ∉ t):lastL (u++47::t)=t:=by
 unfold lastL;rw[(rev_cut u t h).1,List.reverse_reverse]
theorem upL_snoc{u t:List UInt8}(h:47 ∉ t):upL (u++47::t)=u:=by
 unfold upL;rw[(rev_cut u t h).2];simp
theorem parts(l:List UInt8):47 ∉ l\/∃ u t,l=u++47::t/\47 ∉ t:=by
 induction l with
 | nil=>left;simp
 | cons x r ih =>
  rcases ih with h|⟨u,t,rfl,h⟩
  ·by_cases hx:x=47
   ·right;exact⟨[],r,by simp[hx],h⟩
   ·left;simp[Ne.symm hx,h]
  ·right;exact⟨x::u,t,rfl,h⟩
theorem last_at(s:ByteArray):(Lib.lastIndexByte s 47=-1/\47 ∉ s.data.toList)\/∃ i:Nat,i<s.size/\Lib.lastIndexByte s 47=i/\s.data.toList=s.data.toList.take i++47::s.data.toList.drop (i+1)/\47 ∉ s.data.toList.drop (i+1):=by
 have aC:=Lib.size_eq s;have get:∀ j (h:j<s.data.toList.length),s.data[j]! = s.data.toList[j]:=fun j h=>by rw[getElem!_pos s.data j (by simpa using h),Array.getElem_toList]
 rcases Lib.lastIndexByte_spec s 47 with ⟨h1,h2⟩|⟨i,h0,h1,h2,h3⟩
 ·left;refine⟨h1,fun hm=>?_⟩;obtain⟨j,hj,e⟩:=getElem_of_mem hm;have:=h2 j (by omega);rw[get j hj,e]at this;exact this rfl
 ·right;have hi:i<s.data.toList.length:=by omega
  refine⟨i,h0,h1,?_,fun hm=>?_⟩
  ·have hv:s.data.toList[i]=47:=by
    rw[get i hi]at h2;apply UInt8.toNat_inj.1;show _=47;omega
   have:=drop_eq_getElem_cons hi;rw[hv]at this;rw[<- this,take_append_drop]
  ·obtain⟨j,hj,e⟩:=getElem_of_mem hm;rw[getElem_drop]at e;have az:i+1+j<s.data.toList.length:=by simp at hj;omega
   have:=h3 (i+1+j) (by omega) (by omega);rw[get _ az,e]at this;exact this rfl
def parentL(l:List UInt8):List UInt8:=if pathL l=true then upL l else []
def baseL(l:List UInt8):List UInt8:=if pathL l=true then lastL l else []
end NP
end
section
namespace NP
open Go
def cmpL:List UInt8->List UInt8->Int
 | [],[]=>0
 | [],_::_=>-1
 | _::_,[]=>1
 | x::a,y::b=>if x.toNat<y.toNat then -1 else if y.toNat<x.toNat then 1 else cmpL a b
def cmpP:List (List UInt8)->List (List UInt8)->Int
 | [],[]=>0
 | [],_::_=>-1
 | _::_,[]=>1
 | x::a,y::b=>if x=y then cmpP a b else cmpL x y
theorem ordL_cons(x y:UInt8)(a b:List UInt8):ordL (x::a) (y::b)=if rk x<rk y then -1 else if rk y<rk x then 1 else ordL a b:=rfl
theorem rk_lt{x y:UInt8}(hx:x≠47)(hy:y≠47):rk x<rk y↔x.toNat<y.toNat:=by
 unfold rk;rw[if_neg hx,if_neg hy];exact⟨fun h=>by omega,fun h=>by omega⟩
theorem rk_zero:rk 47=0:=rfl
theorem rk_pos{x:UInt8}(hx:x≠47):0<rk x:=by unfold rk;rw[if_neg hx];omega
def Ends(p:List UInt8):Prop:=p=[]\/∃ r,p=47::r
theorem ord_parts:∀(u v p q:List UInt8),47 ∉ u->47 ∉ v->u≠v->Ends p->Ends q->ordL (u++p) (v++q)=cmpL u v
 | [],[],_,_,_,_,h,_,_=>absurd rfl h
 | [],y::v,p,q,_,hv,_,hp,_=>by
  have hy:y≠47:=by rintro rfl;simp at hv
  rcases hp with rfl|⟨r,rfl⟩
  ·rfl
  ·show ordL (47::r) (y::(v++q))=-1;rw[ordL_cons,rk_zero,if_pos (rk_pos hy)]
 | x::u,[],p,q,hu,_,_,_,hq=>by
  have hx:x≠47:=by rintro rfl;simp at hu
  rcases hq with rfl|⟨r,rfl⟩
  ·rfl
  ·show ordL (x::(u++p)) (47::r)=1;rw[ordL_cons,rk_zero,if_neg (by omega),if_pos (rk_pos hx)]
 | x::u,y::v,p,q,hu,hv,h,hp,hq=>by
  have hx:x≠47:=by rintro rfl;simp at hu
  have hy:y≠47:=by rintro rfl;simp at hv
  have a1:47 ∉ u:=fun e=>hu (by simp[e]);have ay:47 ∉ v:=fun e=>hv (by simp[e]);show ordL (x::(u++p)) (y::(v++q))=cmpL (x::u) (y::v);have k1:=rk_lt hx hy;have k2:=rk_lt hy hx;rw[ordL_cons,cmpL];by_cases h1:x.toNat<y.toNat
  ·rw[if_pos h1,if_pos (k1.2 h1)]
  ·rw[if_neg h1,if_neg (fun e=>h1 (k1.1 e))];by_cases h2:y.toNat<x.toNat
   ·rw[if_pos h2,if_pos (k2.2 h2)]
   ·rw[if_neg h2,if_neg (fun e=>h2 (k2.1 e))];have e:x=y:=UInt8.toNat_inj.1 (by omega);subst e;exact ord_parts u v p q a1 ay (fun e=>h (by rw[e])) hp hq
theorem first_part(l:List UInt8):∃ u p,l=u++p/\47 ∉ u/\((p=[]/\cutOn l=[u])\/∃ r,p=47::r/\cutOn l=u::cutOn r):=by
 induction l with
 | nil=>exact⟨[],[],rfl,by simp,.inl ⟨rfl,rfl⟩⟩
 | cons x r ih =>
  by_cases hx:x=47
  ·subst hx;exact⟨[],47::r,rfl,by simp,.inr ⟨r,rfl,by rw[cutOn,if_pos rfl]⟩⟩
  ·obtain⟨u,p,rfl,hu,h⟩:=ih;refine⟨x::u,p,rfl,by simp[Ne.symm hx,hu],?_⟩;rcases h with ⟨hp,hc⟩|⟨r,hp,hc⟩
   ·exact .inl ⟨hp,by rw[cutOn,if_neg hx,hc]⟩
   ·exact .inr ⟨r,hp,by rw[cutOn,if_neg hx,hc]⟩
theorem ord_cut:∀(n:Nat) (a b:List UInt8),a.length<=n->ordL a b=cmpP (cutOn a) (cutOn b)
 | n,a,b,hn=>by
  obtain⟨u,p,ea,hu,hp⟩:=first_part a;obtain⟨v,q,eb,hv,hq⟩:=first_part b
  have Ep:Ends p:=by
   rcases hp with ⟨h,_⟩|⟨r,h,_⟩
   ·exact .inl h
   ·exact .inr ⟨r,h⟩
  have Eq:Ends q:=by
   rcases hq with ⟨h,_⟩|⟨r,h,_⟩
   ·exact .inl h
   ·exact .inr ⟨r,h⟩
  by_cases huv:u=v
  ·subst huv;have h0:ordL a b=ordL p q:=by rw[ea,eb,ordL_append]
   rw[h0];rcases hp with ⟨rfl,hc⟩|⟨r,rfl,hc⟩<;>rcases hq with ⟨rfl,hd⟩|⟨r',rfl,hd⟩
   ·rw[hc,hd,cmpP,if_pos rfl];rfl
   ·rw[hc,hd,cmpP,if_pos rfl];obtain⟨z,t,e⟩:=exists_cons_of_ne_nil (cutOn_ne r');rw[e];rfl
   ·rw[hc,hd,cmpP,if_pos rfl];obtain⟨z,t,e⟩:=exists_cons_of_ne_nil (cutOn_ne r);rw[e];rfl
   ·rw[hc,hd,cmpP,if_pos rfl,ordL_cons,if_neg (by omega),if_neg (by omega)]
    match n,hn with
    | 0,hn=>rw[ea]at hn;simp at hn
    | n+1,hn=>exact ord_cut n r r' (by rw[ea]at hn;simp at hn;omega)
  ·have:=ord_parts u v p q hu hv huv Ep Eq;rw[<- ea,← eb]at this;rw[this]
   have e1:∃ t,cutOn a=u::t:=by
    rcases hp with ⟨_,h⟩|⟨r,_,h⟩
    ·exact⟨_,h⟩
    ·exact⟨_,h⟩
   have e2:∃ t,cutOn b=v::t:=by
    rcases hq with ⟨_,h⟩|⟨r,_,h⟩
    ·exact⟨_,h⟩
    ·exact⟨_,h⟩
   obtain⟨t,e1⟩:=e1;obtain⟨t',e2⟩:=e2;rw[e1,e2,cmpP,if_neg huv]
theorem ordL_parts(a b:List UInt8):ordL a b=cmpP (cutOn a) (cutOn b):=ord_cut a.length a b (Nat.le_refl _)
theorem cmpP_append:∀(p a b:List (List UInt8)),cmpP (p++a) (p++b)=cmpP a b
 | [],_,_=>rfl
 | x::p,a,b=>by
  simp only[cons_append];rw[cmpP,if_pos rfl];exact cmpP_append p a b
theorem cmpP_miss{a b:List (List UInt8)}{i:Nat}{x y:List UInt8}(h:a.take i=b.take i)(ha:a[i]?=some x)(hb:b[i]?=some y)(aa:x≠y):cmpP a b=cmpL x y:=by
 obtain⟨hi,aq⟩:=List.getElem?_eq_some_iff.1 ha;obtain⟨hj,ag⟩:=List.getElem?_eq_some_iff.1 hb;have ea:a=a.take i++x::a.drop (i+1):=by rw[<- aq,← drop_eq_getElem_cons hi,take_append_drop]
 have eb:b=a.take i++y::b.drop (i+1):=by rw[h,← ag,← drop_eq_getElem_cons hj,take_append_drop]
 rw[ea,eb,cmpP_append,cmpP,if_neg aa]
theorem cmpN_succ(m n:Nat):cmpN (m+1) (n+1)=cmpN m n:=by
 unfold cmpN
 repeat' split
 all_goals first|rfl|omega
theorem cmpP_end{a b:List (List UInt8)}{m:Nat}(hm:m=min a.length b.length)(h:a.take m=b.take m):cmpP a b=cmpN a.length b.length:=by
 have ak:∀(a b:List (List UInt8)),a.take (min a.length b.length)=b.take (min a.length b.length)->cmpP a b=cmpN a.length b.length:=by
  intro a
  induction a with
  | nil=>intro b _;cases b<;>rfl
  | cons x a ih =>
   intro b hb
   cases b with
   | nil=>rfl
   | cons y b =>
    have e:min (x::a).length (y::b).length=min a.length b.length+1:=by simp only[length_cons];omega
    rw[e,List.take_succ_cons,List.take_succ_cons]at hb;injection hb with h1 h2;rw[cmpP,if_pos h1,ih b h2];exact(cmpN_succ _ _).symm
 exact ak a b (by rw[<- hm];exact h)
theorem cut_app:∀(q r:List UInt8),cutOn (q++47::r)=cutOn q++cutOn r
 | [],r=>by
  show cutOn (47::r)=[[]]++cutOn r;simp[cutOn]
 | x::q,r=>by
  have ih:=cut_app q r;show cutOn (x::(q++47::r))=_;rw[cutOn,ih];by_cases hx:x=47
  ·rw[if_pos hx,cutOn,if_pos hx];rfl
  ·obtain⟨a,t,e⟩:=exists_cons_of_ne_nil (cutOn_ne q);rw[if_neg hx,cutOn,if_neg hx,e];rfl
theorem join_app:∀ {xs ys:List (List UInt8)},xs≠[]->ys≠[]->Lib.join (xs++ys) [47]=Lib.join xs [47]++47::Lib.join ys [47]
 | [],_,h,_=>absurd rfl h
 | x::xs,ys,_,hy=>by
  obtain⟨y,t,rfl⟩:=exists_cons_of_ne_nil hy;show Lib.join (x::(xs++y::t)) [47]=_;rw[Lib.join_cons,Lib.join_cons,Lib.join_cons];simp[Lib.joinTail]
theorem path_pre{q r:List UInt8}(h:pathL (q++47::r)=true):pathL q=true:=by
 unfold pathL at h ⊢;simp only[Bool.and_eq_true,decide_eq_true_eq]at h ⊢;obtain⟨⟨h1,h2⟩,h3⟩:=h;rw[split_eq,cut_app]at h3;rw[split_eq];unfold allL at h3 ⊢;rw[List.all_append,Bool.and_eq_true]at h3;simp only[length_append,List.count_append]at h1 h2;exact⟨⟨by omega,by omega⟩,h3.1⟩
theorem within_parts{p q:List UInt8}(hp:pathL p=true)(hq:q≠[]):withinL p q=true↔pathL q=true/\cutOn q <+: cutOn p:=by
 unfold withinL;rw[hp,Bool.true_and,Bool.and_eq_true];unfold Lib.hasPrefix;rw[List.isPrefixOf_iff_prefix];constructor
 ·rintro ⟨⟨r,rfl⟩,hr⟩;rw[drop_left]at hr;unfold restOk at hr;simp only[Bool.or_eq_true,decide_eq_true_eq]at hr;rcases hr with (hr|hr)|hr
  ·exact absurd hr hq
  ·subst hr;rw[append_nil]at hp ⊢;exact⟨hp,prefix_refl _⟩
  ·cases r with
   | nil=>simp at hr
   | cons z r =>
    simp only[head?_cons,Option.some.injEq]at hr;subst hr;exact⟨path_pre hp,⟨cutOn r,(cut_app q r).symm⟩⟩
 ·rintro ⟨_,t,ht⟩;have hj:=cutOn_join p;rw[<- ht]at hj
  cases t with
  | nil =>
   rw[append_nil,cutOn_join]at hj;subst hj;exact⟨prefix_refl _,by unfold restOk;simp⟩
  | cons y t =>
   rw[join_app (cutOn_ne q) (by simp),cutOn_join]at hj;rw[<- hj];refine⟨⟨_,rfl⟩,?_⟩;rw[drop_left];unfold restOk;simp
theorem within_root{p:List UInt8}(hp:pathL p=true):withinL p []=true:=by
 unfold withinL Lib.hasPrefix restOk;rw[hp];simp
theorem within_noq{p q:List UInt8}(hp:pathL p=true)(hq:q≠[])(h:pathL q=false):withinL p q=false:=by
 rw[Bool.eq_false_iff];intro e;rw[((within_parts hp hq).1 e).1]at h;cases h
end NP
end
section
namespace TP
open Go NP
def place(p q:List UInt8):List UInt8:=if q=[]then p else p++47::q
theorem place_nil(p:List UInt8):place p []=p:=if_pos rfl
theorem place_ne(p:List UInt8){q:List UInt8}(h:q≠[]):place p q=p++47::q:=if_neg h
theorem path_nil:pathL []=false:=rfl
theorem path_ne{p:List UInt8}(h:pathL p=true):p≠[]:=fun e=>by rw[e,path_nil]at h;cases h
theorem path_iff(p:List UInt8):pathL p=true↔p.length<=400/\p.count 47<16/\allL (cutOn p)=true:=by
 unfold pathL;rw[split_eq];simp only[Bool.and_eq_true,decide_eq_true_eq];constructor
 ·rintro ⟨⟨a,b⟩,c⟩;exact⟨a,b,c⟩
 ·rintro ⟨a,b,c⟩;exact⟨⟨a,b⟩,c⟩
theorem allL_app(a b:List (List UInt8)):allL (a++b)=(allL a&&allL b):=by unfold allL;rw[List.all_append]
theorem path_tail{p r:List UInt8}(h:pathL (p++47::r)=true):pathL r=true:=by
 rw[path_iff]at h ⊢;obtain⟨h1,h2,h3⟩:=h;rw[cut_app,allL_app,Bool.and_eq_true]at h3;simp only[length_append,length_cons,List.count_append,List.count_cons]at h1 h2;exact⟨by omega,by omega,h3.2⟩
theorem path_tail_ne{p r:List UInt8}(h:pathL (p++47::r)=true):r≠[]:=path_ne (path_tail h)
theorem within_iff{n p:List UInt8}(hn:pathL n=true)(hp:p≠[]):withinL n p=true↔∃ q,n=place p q:=by
 unfold withinL Lib.hasPrefix;rw[hn,Bool.true_and,Bool.and_eq_true,List.isPrefixOf_iff_prefix];constructor
 ·rintro ⟨⟨r,rfl⟩,hr⟩;rw[drop_left]at hr;unfold restOk at hr;simp only[Bool.or_eq_true,decide_eq_true_eq]at hr;rcases hr with (hr|hr)|hr
  ·exact absurd hr hp
  ·subst hr;exact⟨[],by rw[place_nil,append_nil]⟩
  ·cases r with
   | nil=>simp at hr
   | cons z r =>
    simp only[head?_cons,Option.some.injEq]at hr;subst hr;exact⟨r,by rw[place_ne p (path_tail_ne hn)]⟩
 ·rintro ⟨q,rfl⟩;by_cases hq:q=[]
  ·rw[hq,place_nil];exact⟨prefix_refl _,by unfold restOk;simp⟩
  ·rw[place_ne p hq];refine⟨⟨_,rfl⟩,?_⟩;rw[drop_left];unfold restOk;simp
theorem within_self{p:List UInt8}(h:pathL p=true):withinL p p=true:=(within_iff h (path_ne h)).2 ⟨[],(place_nil p).symm⟩
theorem within_path{n p:List UInt8}(h:withinL n p=true):pathL n=true:=by
 unfold withinL at h;simp only[Bool.and_eq_true]at h;exact h.1
theorem place_inj{p a b:List UInt8}(h:place p a=place p b):a=b:=by
 unfold place at h;by_cases ha:a=[]
 ·rw[if_pos ha]at h;by_cases hb:b=[]
  ·rw[ha,hb]
  ·rw[if_neg hb]at h;have:=congrArg List.length h;simp at this
 ·rw[if_neg ha]at h;by_cases hb:b=[]
  ·rw[if_pos hb]at h;have:=congrArg List.length h;simp at this
  ·rw[if_neg hb]at h;have:=List.append_cancel_left h;simpa using this
theorem up_cases(n:List UInt8):(47 ∉ n/\upL n=[]/\lastL n=n)\/∃ u t,n=u++47::t/\47 ∉ t/\upL n=u/\lastL n=t:=by
 rcases parts n with h|⟨u,t,rfl,h⟩
 ·exact .inl ⟨h,upL_none h,lastL_none h⟩
 ·exact .inr ⟨u,t,rfl,h,upL_snoc h,lastL_snoc h⟩
theorem up_last(n:List UInt8)(hn:pathL n=true):n=if upL n=[]then lastL n else upL n++47::lastL n:=by
 rcases up_cases n with ⟨_,h1,h2⟩|⟨u,t,rfl,_,h1,h2⟩
 ·rw[h1,if_pos rfl,h2]
 ·rw[h1,h2,if_neg (path_ne (path_pre hn))]
theorem up_short{n:List UInt8}(h:n≠[]):(upL n).length<n.length:=by
 rcases up_cases n with ⟨_,h1,_⟩|⟨u,t,rfl,_,h1,_⟩
 ·rw[h1];exact List.length_pos_iff.2 h
 ·rw[h1];simp
theorem up_path{n:List UInt8}(hn:pathL n=true)(h:upL n≠[]):pathL (upL n)=true/\withinL n (upL n)=true:=by
 rcases up_cases n with ⟨_,h1,_⟩|⟨u,t,rfl,_,h1,_⟩
 ·exact absurd h1 h
 ·rw[h1];refine⟨path_pre hn,(within_iff hn (path_ne (path_pre hn))).2 ⟨t,(place_ne u (path_tail_ne hn)).symm⟩⟩
theorem up_place{p q:List UInt8}(hq:q≠[])(h:pathL (place p q)=true):upL (place p q)=place p (upL q):=by
 rw[place_ne p hq]at h ⊢;rcases up_cases q with ⟨h0,h1,_⟩|⟨u,t,rfl,h0,h1,_⟩
 ·rw[h1,place_nil,upL_snoc h0]
 ·have hu:u≠[]:=path_ne (path_pre (path_tail h));rw[h1,place_ne p hu];have e:p++47::(u++47::t)=(p++47::u)++47::t:=by simp
  rw[e,upL_snoc h0]
theorem last_place{p q:List UInt8}(hq:q≠[]):lastL (place p q)=lastL q:=by
 rw[place_ne p hq];rcases up_cases q with ⟨h0,_,h2⟩|⟨u,t,rfl,h0,_,h2⟩
 ·rw[h2,lastL_snoc h0]
 ·rw[h2];have e:p++47::(u++47::t)=(p++47::u)++47::t:=by simp
  rw[e,lastL_snoc h0]
theorem within_up{n p:List UInt8}(hw:withinL n p=true)(hp:p≠[])(aa:n≠p):upL n≠[]/\withinL (upL n) p=true/\pathL (upL n)=true:=by
 have hn:=within_path hw;obtain⟨q,e⟩:=(within_iff hn hp).1 hw;have hq:q≠[]:=fun h=>aa (by rw[e,h,place_nil]);rw[e]at hn;have e2:=up_place hq hn;rw[<- e]at e2 hn
 have hu:upL n≠[]:=by
  rw[e2];unfold place;split
  ·exact hp
  ·simp
 have am:=(up_path hn hu).1;exact⟨hu,(within_iff am hp).2 ⟨_,e2⟩,am⟩
theorem within_of_up{n p:List UInt8}(hn:pathL n=true)(hp:p≠[])(hu:upL n≠[])(h:withinL (upL n) p=true):withinL n p=true:=by
 obtain⟨am,_⟩:=up_path hn hu;obtain⟨q,e⟩:=(within_iff am hp).1 h;have hl:=up_last n hn;rw[if_neg hu,e]at hl;refine(within_iff hn hp).2 ?_;by_cases hq:q=[]
 ·rw[hq,place_nil]at hl;refine⟨lastL n,?_⟩;rw[place_ne p ?_]
  ·exact hl
  ·rw[hl]at hn;exact path_tail_ne hn
 ·rw[place_ne p hq]at hl;refine⟨q++47::lastL n,?_⟩;rw[place_ne p (by simp)];exact hl.trans (by simp)
theorem ord_place(p a b:List UInt8):ordL (place p a) (place p b)=ordL a b:=by
 by_cases ha:a=[]
 ·subst ha;rw[place_nil];by_cases hb:b=[]
  ·subst hb;rw[place_nil];exact(ordL_zero p p).2 rfl
  ·rw[place_ne p hb];have:=ordL_append p [] (47::b);rw[append_nil]at this;rw[this];obtain⟨x,r,rfl⟩:=exists_cons_of_ne_nil hb;rfl
 ·rw[place_ne p ha];by_cases hb:b=[]
  ·subst hb;rw[place_nil];have:=ordL_append p (47::a) [];rw[append_nil]at this;rw[this];obtain⟨x,r,rfl⟩:=exists_cons_of_ne_nil ha;rfl
  ·rw[place_ne p hb,ordL_append];show ordL ([47]++a) ([47]++b)=_;exact ordL_append [47] a b
theorem ord_nil(a:List UInt8):ordL [] a<=0:=by
 cases a with
 | nil=>decide
 | cons x r=>show(-1:Int)<=0;decide
theorem ord_below{n p:List UInt8}(hp:p≠[])(h:withinL n p=true):ordL p n<=0:=by
 obtain⟨q,rfl⟩:=(within_iff (within_path h) hp).1 h;have:=ord_place p [] q;rw[place_nil]at this;rw[this];exact ord_nil q
theorem ord_neg{a b:List UInt8}(h:ordL a b<0):¬ ordL b a<0:=by
 have:=ordL_swap a b;omega
theorem ord_irr(a:List UInt8):¬ ordL a a<0:=by
 have:=(ordL_zero a a).2 rfl;omega
theorem ord_lt{a b c:List UInt8}(h:ordL a b<0)(k:ordL b c<0):ordL a c<0:=ordL_lt h (Int.le_of_lt k)
theorem ord_tri(a b:List UInt8):ordL a b<0\/a=b\/ordL b a<0:=by
 rcases ordL_cases a b with e|e|e
 ·exact .inl (by omega)
 ·exact .inr (.inl ((ordL_zero a b).1 e))
 ·exact .inr (.inr (by have:=ordL_swap a b;omega))
theorem ord_behind{n c p:List UInt8}(hp:pathL p=true)(hn:pathL n=true)(ab:withinL n p=false)(hc:withinL c p=true)(h:¬ ordL n p<0):ordL c n<0:=by
 have a7:ordL p n<0:=by
  rcases ord_tri n p with e|e|e
  ·exact absurd e h
  ·rw[e,within_self hp]at ab;cases ab
  ·exact e
 rcases ord_tri c n with e|e|e
 ·exact e
 ·rw[<- e,hc]at ab;cases ab
 ·rw[between hn hc a7 e]at ab;cases ab
theorem ord_ahead{n c p:List UInt8}(hp:p≠[])(hc:withinL c p=true)(h:ordL n p<0):ordL n c<0:=ordL_lt h (ord_below hp hc)
end TP
end
section
namespace TP
open Go NP
structure Nd where
 path:List UInt8
 kind:Int
 data:List UInt8
 mode:Int
 deriving DecidableEq
def rightB(n:Nd):Bool :=
 if n.kind=1 then decide (n.data.length<=65536)&&decide (0<=n.mode)&&decide (n.mode<=511)
 else if n.kind=2 then decide (n.data=[])&&decide (n.mode=0)
 else if n.kind=3 then !(n.data.contains 0)&&decide (1<=n.data.length)&&decide (n.data.length<=400)&&decide (n.mode=0)
 else false
def findN(t:List Nd)(p:List UInt8):Option Nd:=t.find? fun n=>decide (n.path=p)
def dirB(t:List Nd)(p:List UInt8):Bool:=decide (p=[])||(match findN t p with|some n=>decide (n.kind=2)|none=>false)
def chainB:List Nd->Bool
 | a::b::r=>decide (ordL a.path b.path<0)&&chainB (b::r)
 | _=>true
def nodeB(t:List Nd)(n:Nd):Bool:=pathL n.path&&rightB n&&dirB t (parentL n.path)
def treeB(t:List Nd):Bool:=decide (t.length<=1000)&&t.all (nodeB t)&&chainB t
def rightV:List Nd->Bool
 | []=>true
 | h::r=>decide (h.path=[])&&rightB h&&decide (r.length+1<=1000)&&(decide (r=[])||(decide (h.kind=2)&&treeB r))
def placeN(p:List UInt8)(n:Nd):Nd:={ n with path:=place p n.path }
def cutN(p:List UInt8)(n:Nd):Nd:={ n with path:=if n.path=p then []else n.path.drop (p.length+1) }
def root:Nd:=⟨[],2,[],0⟩
def atL(t:List Nd)(p:List UInt8):List Nd :=
 if treeB t=true then(if p=[]then root::t else(t.filter fun n=>withinL n.path p).map (cutN p))else []
def outL(t:List Nd)(p:List UInt8)(v:List Nd):List Nd :=
 (t.filter fun n=>!withinL n.path p&&decide (ordL n.path p<0))++(v.map (placeN p)++t.filter fun n=>!withinL n.path p&&!decide (ordL n.path p<0))
def putL(t:List Nd)(p:List UInt8)(v:List Nd):List Nd×Nat :=
 if treeB t=false\/rightV v=false then([],60)
 else if pathL p=false then([],11)
 else if v≠[]/\dirB t (parentL p)=false then([],62)
 else if(v.all fun n=>pathL (place p n.path))=false then([],11)
 else if 1000<(outL t p v).length then([],32)
 else(outL t p v,0)
def lt(a b:Nd):Prop:=ordL a.path b.path<0
def Sorted(t:List Nd):Prop:=t.Pairwise lt
theorem chain_iff:∀ t:List Nd,chainB t=true↔Sorted t
 | []=>⟨fun _=>List.Pairwise.nil,fun _=>rfl⟩
 | [a]=>⟨fun _=>List.pairwise_singleton _ _,fun _=>rfl⟩
 | a::b::r=>by
  have ih:=chain_iff (b::r);rw[chainB,Bool.and_eq_true,decide_eq_true_eq,ih];constructor
  ·rintro ⟨h1,h2⟩;refine List.Pairwise.cons (fun c hc=>?_) h2;rcases List.mem_cons.1 hc with rfl|hc
   ·exact h1
   ·exact ord_lt h1 (rel_of_pairwise_cons h2 hc)
  ·intro h;exact⟨rel_of_pairwise_cons h (mem_cons_self ..),List.Pairwise.of_cons h⟩
theorem sorted_ext:∀ {a b:List Nd},Sorted a->Sorted b->(∀ n,n∈a↔n∈b)->a=b
 | [],[],_,_,_=>rfl
 | [],y::b,_,_,h=>absurd ((h y).2 (mem_cons_self ..)) (by simp)
 | x::a,[],_,_,h=>absurd ((h x).1 (mem_cons_self ..)) (by simp)
 | x::a,y::b,ha,hb,h=>by
  have aA:x=y:=by
   rcases List.mem_cons.1 ((h x).1 (mem_cons_self ..))with e|e
   ·exact e
   ·rcases List.mem_cons.1 ((h y).2 (mem_cons_self ..))with e2|e2
    ·exact e2.symm
    ·exact absurd (rel_of_pairwise_cons ha e2) (ord_neg (rel_of_pairwise_cons hb e))
  subst aA;rw[sorted_ext (List.Pairwise.of_cons ha) (List.Pairwise.of_cons hb) fun n=>?_];constructor
  ·intro hn;rcases List.mem_cons.1 ((h n).1 (mem_cons_of_mem _ hn))with e|e
   ·subst e;exact absurd (rel_of_pairwise_cons ha hn) (ord_irr _)
   ·exact e
  ·intro hn;rcases List.mem_cons.1 ((h n).2 (mem_cons_of_mem _ hn))with e|e
   ·subst e;exact absurd (rel_of_pairwise_cons hb hn) (ord_irr _)
   ·exact e
theorem sorted_one:∀ {t:List Nd},Sorted t->∀ {a b:Nd},a∈t->b∈t->a.path=b.path->a=b
 | [],_,a,_,ha,_,_=>by simp at ha
 | x::r,h,a,b,ha,hb,e=>by
  rcases List.mem_cons.1 ha with h1|h1
  ·rcases List.mem_cons.1 hb with h2|h2
   ·rw[h1,h2]
   ·have h3:lt x b:=rel_of_pairwise_cons h h2;unfold lt at h3;rw[<- h1,e]at h3;exact absurd h3 (ord_irr _)
  ·rcases List.mem_cons.1 hb with h2|h2
   ·have h3:lt x a:=rel_of_pairwise_cons h h1;unfold lt at h3;rw[<- h2,e]at h3;exact absurd h3 (ord_irr _)
   ·exact sorted_one (List.Pairwise.of_cons h) h1 h2 e
theorem sorted_filter{t:List Nd}(h:Sorted t)(f:Nd->Bool):Sorted (t.filter f):=List.Pairwise.filter f h
def Dir(t:List Nd)(p:List UInt8):Prop:=p=[]\/∃ d∈t,d.path=p/\d.kind=2
theorem find_mem{t:List Nd}{p:List UInt8}{n:Nd}(h:findN t p=some n):n∈t/\n.path=p:=by
 unfold findN at h;have h1:=List.find?_some h;simp at h1;exact⟨List.mem_of_find?_eq_some h,h1⟩
theorem find_of{t:List Nd}(hs:Sorted t){n:Nd}(h:n∈t):findN t n.path=some n:=by
 cases hf:findN t n.path with
 | none =>
  unfold findN at hf;rw[List.find?_eq_none]at hf;have:=hf n h;simp at this
 | some m =>
  obtain⟨h1,h2⟩:=find_mem hf;rw[sorted_one hs h1 h h2]
theorem dir_iff{t:List Nd}(hs:Sorted t)(p:List UInt8):dirB t p=true↔Dir t p:=by
 unfold dirB Dir;rw[Bool.or_eq_true,decide_eq_true_eq];refine or_congr Iff.rfl ?_;constructor
 ·intro h
  cases hf:findN t p with
  | none=>rw[hf]at h;cases h
  | some n =>
   rw[hf]at h;simp at h;exact⟨n,(find_mem hf).1,(find_mem hf).2,h⟩
 ·rintro ⟨d,hd,rfl,hk⟩;rw[find_of hs hd];simpa using hk
structure Tree(t:List Nd):Prop where
 len:t.length<=1000
 sorted:Sorted t
 path:∀ n∈t,pathL n.path=true
 right:∀ n∈t,rightB n=true
 dir:∀ n∈t,Dir t (upL n.path)
theorem tree_iff(t:List Nd):treeB t=true↔Tree t:=by
 unfold treeB;rw[Bool.and_eq_true,Bool.and_eq_true,decide_eq_true_eq,chain_iff,all_eq_true];constructor
 ·rintro ⟨⟨h1,h2⟩,h3⟩
  have h4:∀ n∈t,pathL n.path=true/\rightB n=true/\dirB t (parentL n.path)=true:=fun n hn=>by
   have:=h2 n hn;unfold nodeB at this;rw[Bool.and_eq_true,Bool.and_eq_true]at this;exact⟨this.1.1,this.1.2,this.2⟩
  refine⟨h1,h3,fun n hn=>(h4 n hn).1,fun n hn=>(h4 n hn).2.1,fun n hn=>?_⟩;have:=(h4 n hn).2.2;rw[show parentL n.path=upL n.path by unfold parentL;rw[if_pos (h4 n hn).1]]at this;exact(dir_iff h3 _).1 this
 ·intro h;refine⟨⟨h.len,fun n hn=>?_⟩,h.sorted⟩;unfold nodeB;rw[h.path n hn,h.right n hn,show parentL n.path=upL n.path by unfold parentL;rw[if_pos (h.path n hn)],(dir_iff h.sorted _).2 (h.dir n hn)];rfl
theorem tree_nil:Tree []:=⟨by simp,List.Pairwise.nil,by simp,by simp,by simp⟩
theorem tree_above{t:List Nd}(ht:Tree t){p:List UInt8}(hp:p≠[]):∀(k:Nat) (n:Nd),n.path.length<=k->n∈t->withinL n.path p=true->n.path≠p->∃ d∈t,d.path=p/\d.kind=2
 | 0,n,hk,hn,_,_=>absurd (List.eq_nil_of_length_eq_zero (by omega)) (path_ne (ht.path n hn))
 | k+1,n,hk,hn,hw,aa=>by
  obtain⟨hu,a5,_⟩:=within_up hw hp aa;rcases ht.dir n hn with e|⟨d,hd,e,a0⟩
  ·exact absurd e hu
  ·by_cases hdp:d.path=p
   ·exact⟨d,hd,hdp,a0⟩
   ·refine tree_above ht hp k d ?_ hd (by rw[e];exact a5) hdp;have:=up_short (path_ne (ht.path n hn));rw[e];omega
end TP
end
section
namespace TP
open Go NP
theorem up_lt{n:List UInt8}(hn:pathL n=true):ordL (upL n) n<0:=by
 have h0:=path_ne hn;by_cases hu:upL n=[]
 ·rw[hu];obtain⟨x,r,rfl⟩:=exists_cons_of_ne_nil h0;show(-1:Int)<0;decide
 ·obtain⟨hp,hw⟩:=up_path hn hu;have h1:=ord_below hu hw;rcases ord_tri (upL n) n with e|e|e
  ·exact e
  ·have:=up_short h0;rw[e]at this;omega
  ·have:=ordL_swap n (upL n);omega
theorem nil_lt{n:List UInt8}(h:n≠[]):ordL [] n<0:=by
 obtain⟨x,r,rfl⟩:=exists_cons_of_ne_nil h;show(-1:Int)<0;decide
structure Val(v:List Nd):Prop where
 sorted:Sorted v
 len:v.length<=1000
 right:∀ m∈v,rightB m=true
 path:∀ m∈v,m.path=[]\/pathL m.path=true
 dir:∀ m∈v,m.path≠[]->∃ d∈v,d.path=upL m.path/\d.kind=2
theorem Val.nil:Val []:=⟨List.Pairwise.nil,by simp,by simp,by simp,by simp⟩
theorem val_iff(v:List Nd):rightV v=true↔Val v:=by
 cases v with
 | nil=>exact⟨fun _=>Val.nil,fun _=>rfl⟩
 | cons h r =>
  unfold rightV;simp only[Bool.and_eq_true,Bool.or_eq_true,decide_eq_true_eq];constructor
  ·rintro ⟨⟨⟨h1,h2⟩,h3⟩,h4⟩;have ak:r=[]\/h.kind=2/\Tree r:=h4.imp id fun e=>⟨e.1,(tree_iff r).1 e.2⟩;rcases ak with rfl|⟨hk,ht⟩
   ·refine⟨List.pairwise_singleton _ _,by simp,fun m hm=>?_,fun m hm=>?_,fun m hm aa=>?_⟩
    ·simp at hm;rw[hm];exact h2
    ·simp at hm;rw[hm];exact .inl h1
    ·simp at hm;rw[hm]at aa;exact absurd h1 aa
   ·refine⟨List.Pairwise.cons (fun m hm=>?_) ht.sorted,h3,fun m hm=>?_,fun m hm=>?_,fun m hm aa=>?_⟩
    ·unfold lt;rw[h1];exact nil_lt (path_ne (ht.path m hm))
    ·rcases List.mem_cons.1 hm with rfl|hm
     ·exact h2
     ·exact ht.right m hm
    ·rcases List.mem_cons.1 hm with rfl|hm
     ·exact .inl h1
     ·exact .inr (ht.path m hm)
    ·rcases List.mem_cons.1 hm with rfl|hm
     ·exact absurd h1 aa
     ·rcases ht.dir m hm with e|⟨d,hd,e1,e2⟩
      ·exact⟨h,mem_cons_self ..,by rw[h1,e],hk⟩
      ·exact⟨d,mem_cons_of_mem _ hd,e1,e2⟩
  ·intro hv;have hs:=hv.sorted
   have h1:h.path=[]:=by
    by_cases e:h.path=[]
    ·exact e
    ·exfalso;obtain⟨d,hd,e1,_⟩:=hv.dir h (mem_cons_self ..) e;have hp:pathL h.path=true:=(hv.path h (mem_cons_self ..)).resolve_left e;have ac:=up_lt hp;rw[<- e1]at ac;rcases List.mem_cons.1 hd with rfl|hd
     ·exact ord_irr _ ac
     ·exact ord_neg (rel_of_pairwise_cons hs hd) ac
   have aa:∀ m∈r,m.path≠[]:=fun m hm e=>by
    have:lt h m:=rel_of_pairwise_cons hs hm;unfold lt at this;rw[h1,e]at this;exact ord_irr _ this
   have ht:Tree r:=⟨by have:=hv.len;simp at this;omega,List.Pairwise.of_cons hs,fun m hm=>(hv.path m (mem_cons_of_mem _ hm)).resolve_left (aa m hm),fun m hm=>hv.right m (mem_cons_of_mem _ hm),fun m hm=>by
    obtain⟨d,hd,e1,e2⟩:=hv.dir m (mem_cons_of_mem _ hm) (aa m hm);rcases List.mem_cons.1 hd with rfl|hd
    ·exact .inl (by rw[<- e1,h1])
    ·exact .inr ⟨d,hd,e1,e2⟩⟩
   refine⟨⟨⟨h1,hv.right h (mem_cons_self ..)⟩,hv.len⟩,?_⟩
   cases r with
   | nil=>exact .inl rfl
   | cons m r =>
    refine .inr ⟨?_,(tree_iff _).2 ht⟩;obtain⟨d,hd,e1,e2⟩:=hv.dir m (by simp) (aa m (by simp));have ac:=up_lt (ht.path m (by simp));rw[<- e1]at ac;rcases List.mem_cons.1 hd with rfl|hd
    ·exact e2
    ·exfalso;rcases List.mem_cons.1 hd with rfl|hd
     ·exact ord_irr _ ac
     ·exact ord_neg (rel_of_pairwise_cons ht.sorted hd) ac
theorem cut_place(p:List UInt8)(n:Nd):cutN p (placeN p n)=n:=by
 unfold cutN placeN
 cases n with
 | mk q k d m =>
  simp only[Nd.mk.injEq,and_true];by_cases hq:q=[]
  ·rw[hq,place_nil,if_pos rfl]
  ·rw[place_ne p hq,if_neg (fun e=>by have:=congrArg List.length e;simp at this),show p.length+1=(p++[47]).length by simp,show p++47::q=(p++[47])++q by simp,drop_left]
theorem place_within{p:List UInt8}(hp:p≠[]){n:Nd}(h:pathL (place p n.path)=true):withinL (placeN p n).path p=true:=(within_iff h hp).2 ⟨_,rfl⟩
theorem within_place{p:List UInt8}(hp:p≠[]){y:Nd}(h:withinL y.path p=true):∃ n,y=placeN p n:=by
 obtain⟨q,e⟩:=(within_iff (within_path h) hp).1 h;exact⟨{ y with path:=q },by unfold placeN;cases y;simp_all⟩
theorem at_mem{t:List Nd}(ht:Tree t){p:List UInt8}(hp:pathL p=true)(n:Nd):n∈atL t p↔placeN p n∈t:=by
 unfold atL;rw[if_pos ((tree_iff t).2 ht),if_neg (path_ne hp),mem_map];constructor
 ·rintro ⟨y,hy,rfl⟩;rw[mem_filter]at hy;obtain⟨m,rfl⟩:=within_place (path_ne hp) hy.2;rw[cut_place];exact hy.1
 ·intro h;exact⟨placeN p n,List.mem_filter.2 ⟨h,place_within (path_ne hp) (ht.path _ h)⟩,cut_place p n⟩
theorem mem_out(t:List Nd)(p:List UInt8)(v:List Nd)(n:Nd):n∈outL t p v↔(n∈t/\withinL n.path p=false)\/∃ m∈v,placeN p m=n:=by
 unfold outL;rw[List.mem_append,List.mem_append,mem_filter,mem_filter,mem_map];simp only[Bool.and_eq_true,Bool.not_eq_true',decide_eq_true_eq,decide_eq_false_iff_not];constructor
 ·rintro (⟨a,b,_⟩|h|⟨a,b,_⟩)
  ·exact .inl ⟨a,b⟩
  ·exact .inr h
  ·exact .inl ⟨a,b⟩
 ·rintro (⟨a,b⟩|h)
  ·by_cases c:ordL n.path p<0
   ·exact .inl ⟨a,b,c⟩
   ·exact .inr (.inr ⟨a,b,c⟩)
  ·exact .inr (.inl h)
theorem out_sorted{t:List Nd}(ht:Tree t){p:List UInt8}(hp:pathL p=true){v:List Nd}(hv:Sorted v)(hq:∀ m∈v,pathL (place p m.path)=true):Sorted (outL t p v):=by
 have al:=path_ne hp;have hw:∀ m∈v,withinL (placeN p m).path p=true:=fun m hm=>place_within al (hq m hm)
 have a3:Sorted (v.map (placeN p)):=by
  unfold Sorted;rw[List.pairwise_map];refine List.Pairwise.imp (fun {a b} h=>?_) hv;unfold lt at h ⊢;have e:=ord_place p a.path b.path;show ordL (place p a.path) (place p b.path)<0;rw[e];exact h
 unfold outL Sorted;rw[List.pairwise_append,List.pairwise_append];refine⟨sorted_filter ht.sorted _,⟨a3,sorted_filter ht.sorted _,fun a ha b hb=>?_⟩,fun a ha b hb=>?_⟩
 ·obtain⟨m,hm,rfl⟩:=List.mem_map.1 ha;rw[mem_filter]at hb;simp only[Bool.and_eq_true,Bool.not_eq_true',decide_eq_false_iff_not]at hb;exact ord_behind hp (ht.path b hb.1) hb.2.1 (hw m hm) hb.2.2
 ·rw[mem_filter]at ha;simp only[Bool.and_eq_true,Bool.not_eq_true',decide_eq_true_eq]at ha;rcases List.mem_append.1 hb with hb|hb
  ·obtain⟨m,hm,rfl⟩:=List.mem_map.1 hb;exact ord_ahead al (hw m hm) ha.2.2
  ·rw[mem_filter]at hb;simp only[Bool.and_eq_true,Bool.not_eq_true',decide_eq_false_iff_not]at hb
   have h1:ordL p b.path<=0:=by
    have:=ordL_swap p b.path;omega
   exact ordL_lt ha.2.2 h1
structure PutOk(t:List Nd)(p:List UInt8)(v:List Nd):Prop where
 tree:Tree t
 val:Val v
 path:pathL p=true
 up:v≠[]->Dir t (upL p)
 all:∀ m∈v,pathL (place p m.path)=true
 len:(outL t p v).length<=1000
theorem put_cases(t:List Nd)(p:List UInt8)(v:List Nd):(PutOk t p v/\putL t p v=(outL t p v,0))\/∃ e,putL t p v=([],e+1):=by
 unfold putL;by_cases h1:treeB t=false\/rightV v=false
 ·rw[if_pos h1];exact .inr ⟨59,rfl⟩
 ·rw[if_neg h1];have ht:Tree t:=(tree_iff t).1 (by cases h:treeB t with|true=>rfl|false=>exact absurd (.inl h) h1);have hv:Val v:=(val_iff v).1 (by cases h:rightV v with|true=>rfl|false=>exact absurd (.inr h) h1);by_cases h2:pathL p=false
  ·rw[if_pos h2];exact .inr ⟨10,rfl⟩
  ·rw[if_neg h2];have hp:pathL p=true:=by simpa using h2
   by_cases h3:v≠[]/\dirB t (parentL p)=false
   ·rw[if_pos h3];exact .inr ⟨61,rfl⟩
   ·rw[if_neg h3];by_cases h4:(v.all fun n=>pathL (place p n.path))=false
    ·rw[if_pos h4];exact .inr ⟨10,rfl⟩
    ·rw[if_neg h4];by_cases h5:1000<(outL t p v).length
     ·rw[if_pos h5];exact .inr ⟨31,rfl⟩
     ·rw[if_neg h5];refine .inl ⟨⟨ht,hv,hp,fun aa=>?_,?_,by omega⟩,rfl⟩
      ·have e:dirB t (parentL p)=true:=by
        cases h:dirB t (parentL p)with
        | true=>rfl
        | false=>exact absurd ⟨aa,h⟩ h3
       rw[show parentL p=upL p by unfold parentL;rw[if_pos hp]]at e;exact(dir_iff ht.sorted _).1 e
      ·have e:(v.all fun n=>pathL (place p n.path))=true:=by simpa using h4
       exact fun m hm=>List.all_eq_true.1 e m hm
theorem put_of{t:List Nd}{p:List UInt8}{v:List Nd}(h:PutOk t p v):putL t p v=(outL t p v,0):=by
 unfold putL;rw[if_neg (by rw[(tree_iff t).2 h.tree,(val_iff v).2 h.val];simp),if_neg (by rw[h.path];simp),if_neg ?_,if_neg ?_,if_neg (by have:=h.len;omega)]
 ·rw[List.all_eq_true.2 h.all];simp
 ·rintro ⟨aa,hd⟩;rw[show parentL p=upL p by unfold parentL;rw[if_pos h.path],(dir_iff h.tree.sorted _).2 (h.up aa)]at hd;cases hd
theorem up_not_within{p:List UInt8}(hp:pathL p=true)(hu:upL p≠[]):withinL (upL p) p=false:=by
 rw[Bool.eq_false_iff];intro h;have h1:=ord_below (path_ne hp) h;have h2:=up_lt hp;have:=ordL_swap (upL p) p;omega
theorem out_tree{t:List Nd}{p:List UInt8}{v:List Nd}(h:PutOk t p v):Tree (outL t p v):=by
 have al:=path_ne h.path;have mo:=mem_out t p v;refine⟨h.len,out_sorted h.tree h.path h.val.sorted h.all,fun n hn=>?_,fun n hn=>?_,fun n hn=>?_⟩
 ·rcases (mo n).1 hn with ⟨a,_⟩|⟨m,hm,rfl⟩
  ·exact h.tree.path n a
  ·exact h.all m hm
 ·rcases (mo n).1 hn with ⟨a,_⟩|⟨m,hm,rfl⟩
  ·exact h.tree.right n a
  ·exact h.val.right m hm
 ·rcases (mo n).1 hn with ⟨a,b⟩|⟨m,hm,rfl⟩
  ·rcases h.tree.dir n a with e|⟨d,hd,e1,e2⟩
   ·exact .inl e
   ·by_cases hu:upL n.path=[]
    ·exact .inl hu
    ·refine .inr ⟨d,(mo d).2 (.inl ⟨hd,?_⟩),e1,e2⟩;rw[Bool.eq_false_iff];intro hw;rw[e1]at hw;rw[within_of_up (h.tree.path n a) al hu hw]at b;cases b
  ·by_cases hm0:m.path=[]
   ·have ax:(placeN p m).path=p:=by unfold placeN;rw[hm0,place_nil]
    rw[ax];rcases h.up (fun e=>by rw[e]at hm;simp at hm)with e|⟨d,hd,e1,e2⟩
    ·exact .inl e
    ·by_cases hu:upL p=[]
     ·exact .inl hu
     ·refine .inr ⟨d,(mo d).2 (.inl ⟨hd,?_⟩),e1,e2⟩;rw[e1];exact up_not_within h.path hu
   ·obtain⟨d,hd,e1,e2⟩:=h.val.dir m hm hm0;refine .inr ⟨placeN p d,(mo _).2 (.inr ⟨d,hd,rfl⟩),?_,e2⟩;show place p d.path=upL (place p m.path);rw[up_place hm0 (h.all m hm),e1]
end TP
end
section
namespace TP
open Go NP
theorem filter_two(t:List Nd)(f g:Nd->Bool):(t.filter fun n=>f n&&g n).length+(t.filter fun n=>f n&&!g n).length<=t.length:=by
 induction t with
 | nil=>simp
 | cons x r ih =>
  simp only[List.filter_cons];cases f x<;>cases g x<;>simp<;>omega
theorem out_nil_len(t:List Nd)(p:List UInt8):(outL t p []).length<=t.length:=by
 unfold outL;rw[List.map_nil,List.nil_append,length_append];exact filter_two t _ _
theorem take_ok{t:List Nd}(ht:Tree t){p:List UInt8}(hp:pathL p=true):PutOk t p [] :=
 ⟨ht,Val.nil,hp,fun h=>absurd rfl h,by simp,Nat.le_trans (out_nil_len t p) ht.len⟩
theorem within_comp{n a b:List UInt8}(ha:a≠[])(hb:b≠[])(h1:withinL n a=true)(h2:withinL n b=true):withinL a b=true\/withinL b a=true:=by
 have hn:=within_path h1;obtain⟨pa,ca⟩:=(within_parts hn ha).1 h1;obtain⟨pb,cb⟩:=(within_parts hn hb).1 h2;rcases List.prefix_or_prefix_of_prefix ca cb with h|h
 ·exact .inr ((within_parts pb ha).2 ⟨pa,h⟩)
 ·exact .inl ((within_parts pa hb).2 ⟨pb,h⟩)
theorem moved{t:List Nd}{src dst:List UInt8}{v:List Nd}(h:PutOk t dst v)(hs:pathL src=true)(h1:withinL dst src=false)(h2:withinL src dst=false) :
  PutOk (outL t dst v) src []/\PutOk (outL t src []) dst v/\outL (outL t dst v) src []=outL (outL t src []) dst v/\atL (outL (outL t dst v) src []) src=[]:=by
 have ap:=path_ne hs;have au:=path_ne h.path;have hA:=out_tree h;have hB:=out_tree (take_ok h.tree hs);have av:=take_ok hA hs
 have ab:∀ m∈v,withinL (placeN dst m).path src=false:=fun m hm=>by
  rw[Bool.eq_false_iff];intro hw;rcases within_comp au ap (place_within au (h.all m hm)) hw with e|e
  ·rw[e]at h1;cases h1
  ·rw[e]at h2;cases h2
 have ar:outL (outL t dst v) src []=outL (outL t src []) dst v:=by
  refine sorted_ext (out_sorted hA hs List.Pairwise.nil (by simp)) (out_sorted hB h.path h.val.sorted h.all) fun n=>?_;rw[mem_out,mem_out,mem_out,mem_out];constructor
  ·rintro (⟨⟨a,b⟩|⟨m,hm,rfl⟩,c⟩|⟨m,hm,_⟩)
   ·exact .inl ⟨.inl ⟨a,c⟩,b⟩
   ·exact .inr ⟨m,hm,rfl⟩
   ·simp at hm
  ·rintro (⟨⟨a,b⟩|⟨m,hm,_⟩,c⟩|⟨m,hm,rfl⟩)
   ·exact .inl ⟨.inl ⟨a,c⟩,b⟩
   ·simp at hm
   ·exact .inl ⟨.inr ⟨m,hm,rfl⟩,ab m hm⟩
 refine⟨av,⟨hB,h.val,h.path,fun aa=>?_,h.all,?_⟩,ar,?_⟩
 ·rcases h.up aa with e|⟨d,hd,e1,e2⟩
  ·exact .inl e
  ·by_cases hu:upL dst=[]
   ·exact .inl hu
   ·refine .inr ⟨d,(mem_out _ _ _ _).2 (.inl ⟨hd,?_⟩),e1,e2⟩;rw[Bool.eq_false_iff];intro hw;rw[e1]at hw;rw[within_of_up h.path ap hu hw]at h1;cases h1
 ·rw[<- ar];exact Nat.le_trans (out_nil_len _ _) h.len
 ·have hC:=out_tree av;rw[List.eq_nil_iff_forall_not_mem];intro n hn;rcases (mem_out _ _ _ _).1 ((at_mem hC hs n).1 hn)with ⟨a,b⟩|⟨m,hm,_⟩
  ·rw[place_within ap (hA.path _ a)]at b;cases b
  ·simp at hm
def namesL(t:List Nd)(p:List UInt8):List (List UInt8):=if treeB t=true/\dirB t p=true then(t.filter fun n=>decide (parentL n.path=p)).map fun n=>baseL n.path else []
end TP
end
section
namespace TP
open Go NP
def lowN(p:List UInt8)(n:Nd):Bool:=!withinL n.path p&&decide (ordL n.path p<0)
def highN(p:List UInt8)(n:Nd):Bool:=!withinL n.path p&&!decide (ordL n.path p<0)
def outK(t:List Nd)(p:List UInt8)(v:List Nd)(i:Nat)(b:Bool):List Nd :=
 ((t.take i).filter (lowN p))++(if b=true then v.map (placeN p)++(t.take i).filter (highN p)else [])
theorem outK_end{t:List Nd}{p:List UInt8}{v:List Nd}{i:Nat}(h:t.length<=i):outK t p v i true=outL t p v:=by
 unfold outK outL;rw[List.take_of_length_le h,if_pos rfl];rfl
theorem take_snoc{t:List Nd}{i:Nat}{x:Nd}(hx:t[i]?=some x)(f:Nd->Bool):(t.take (i+1)).filter f=(t.take i).filter f++(if f x=true then [x]else []):=by
 rw[take_add_one,hx,Option.toList_some,filter_append];cases h:f x<;>simp[h]
theorem outK_in{t:List Nd}{p:List UInt8}{v:List Nd}{i:Nat}{x:Nd}{b:Bool}(hx:t[i]?=some x)(hw:withinL x.path p=true):outK t p v (i+1) b=outK t p v i b:=by
 unfold outK;have h1:lowN p x=false:=by unfold lowN;rw[hw];rfl
 have h2:highN p x=false:=by unfold highN;rw[hw];rfl
 rw[take_snoc hx,take_snoc hx,h1,h2];simp
theorem outK_low{t:List Nd}{p:List UInt8}{v:List Nd}{i:Nat}{x:Nd}(hx:t[i]?=some x)(hw:withinL x.path p=false)(ho:ordL x.path p<0):outK t p v (i+1) false=outK t p v i false++[x]:=by
 unfold outK;have h1:lowN p x=true:=by unfold lowN;rw[hw];simp[ho]
 rw[take_snoc hx,h1];simp
theorem outK_high{t:List Nd}{p:List UInt8}{v:List Nd}{i:Nat}{x:Nd}(hx:t[i]?=some x)(hw:withinL x.path p=false)(ho:¬ ordL x.path p<0):outK t p v (i+1) true=outK t p v i true++[x]:=by
 unfold outK;have h1:lowN p x=false:=by unfold lowN;rw[hw];simp[ho]
 have h2:highN p x=true:=by unfold highN;rw[hw];simp[ho]
 rw[take_snoc hx,take_snoc hx,h1,h2];simp
def Ahead(t:List Nd)(p:List UInt8)(i:Nat):Prop:=∀ j x,j<i->t[j]?=some x->ordL x.path p<0
def Behind(t:List Nd)(p:List UInt8)(i:Nat):Prop:=∀ j x,i<=j->t[j]?=some x->¬ ordL x.path p<0
theorem Ahead.zero(t:List Nd)(p:List UInt8):Ahead t p 0:=fun j x h=>absurd h (Nat.not_lt_zero _)
theorem Ahead.succ{t:List Nd}{p:List UInt8}{i:Nat}{x:Nd}(h:Ahead t p i)(hx:t[i]?=some x)(ho:ordL x.path p<0):Ahead t p (i+1):=fun j y hj hy=>by
 rcases Nat.lt_or_ge j i with e|e
 ·exact h j y e hy
 ·have:j=i:=by omega
  subst this;rw[hx]at hy;cases hy;exact ho
theorem Behind.succ{t:List Nd}{p:List UInt8}{i:Nat}(h:Behind t p i):Behind t p (i+1):=fun j x hj hx=>h j x (by omega) hx
theorem Behind.last{t:List Nd}{p:List UInt8}{i:Nat}(h:t.length<=i):Behind t p i:=fun j x hj hx=>by
 rw[List.getElem?_eq_none (by omega)]at hx;cases hx
theorem Behind.of{t:List Nd}{p:List UInt8}{i:Nat}{x:Nd}(hs:Sorted t)(hx:t[i]?=some x)(ho:¬ ordL x.path p<0):Behind t p i:=fun j y hj hy hc=>by
 rcases Nat.lt_or_ge i j with e|e
 ·obtain⟨a8,rfl⟩:=List.getElem?_eq_some_iff.1 hx;obtain⟨ah,rfl⟩:=List.getElem?_eq_some_iff.1 hy;have h1:lt t[i] t[j]:=List.pairwise_iff_getElem.1 hs i j a8 ah e;exact ho (ord_lt h1 hc)
 ·have:j=i:=by omega
  subst this;rw[hx]at hy;cases hy;exact ho hc
theorem outK_flip{t:List Nd}{p:List UInt8}{v:List Nd}{i:Nat}(h:Ahead t p i):outK t p v i true=outK t p v i false++v.map (placeN p):=by
 unfold outK
 have e:(t.take i).filter (highN p)=[]:=by
  rw[List.filter_eq_nil_iff];intro x hx;obtain⟨j,hj⟩:=List.mem_iff_getElem?.1 hx;rw[List.getElem?_take]at hj;split at hj
  ·rename_i hji;have:=h j x hji hj;unfold highN;simp[this]
  ·cases hj
 rw[e,if_pos rfl,if_neg (by simp),append_nil,append_nil]
theorem outK_len(t:List Nd)(p:List UInt8)(v:List Nd)(i:Nat)(b:Bool):(outK t p v i b).length<=2*t.length+v.length:=by
 unfold outK;have h1:=List.length_filter_le (lowN p) (t.take i);have h2:=List.length_filter_le (highN p) (t.take i);have h3:(t.take i).length<=t.length:=by rw[length_take];omega
 cases b
 ·rw[if_neg (by simp),append_nil];omega
 ·rw[if_pos rfl,length_append,length_append,List.length_map];omega
theorem val_at{v:List Nd}(h:rightV v=true){k:Nat}{x:Nd}(hx:v[k]?=some x):(k=0->x.path=[])/\(k≠0->x.path≠[]):=by
 cases v with
 | nil=>simp at hx
 | cons a r =>
  unfold rightV at h;simp only[Bool.and_eq_true,Bool.or_eq_true,decide_eq_true_eq]at h;obtain⟨⟨⟨h1,_⟩,_⟩,h2⟩:=h
  cases k with
  | zero =>
   simp at hx;subst hx;exact⟨fun _=>h1,fun h=>absurd rfl h⟩
  | succ k =>
   rw[List.getElem?_cons_succ]at hx;refine⟨fun h=>by omega,fun _=>?_⟩;rcases h2 with h2|⟨_,h2⟩
   ·rw[h2]at hx;simp at hx
   ·exact path_ne (((tree_iff r).1 h2).path x (mem_of_getElem? hx))
theorem val_len{v:List Nd}(h:rightV v=true):v.length<=1000:=by
 cases v with
 | nil=>simp
 | cons a r =>
  unfold rightV at h;simp only[Bool.and_eq_true,Bool.or_eq_true,decide_eq_true_eq]at h;rw[length_cons];omega
def valK(p:List UInt8)(v:List Nd)(k:Nat):List Nd:=(v.take k).map (placeN p)
theorem valK_succ{p:List UInt8}{v:List Nd}{k:Nat}{x:Nd}(hx:v[k]?=some x):valK p v (k+1)=valK p v k++[placeN p x]:=by
 unfold valK;rw[take_add_one,hx,Option.toList_some,map_append,List.map_singleton]
theorem valK_end{p:List UInt8}{v:List Nd}{k:Nat}(h:v.length<=k):valK p v k=v.map (placeN p):=by
 unfold valK;rw[List.take_of_length_le h]
def PathsK(p:List UInt8)(v:List Nd)(k:Nat):Prop:=∀ j x,j<k->v[j]?=some x->pathL (place p x.path)=true
theorem PathsK.zero(p:List UInt8)(v:List Nd):PathsK p v 0:=fun j x h=>absurd h (Nat.not_lt_zero _)
theorem PathsK.succ{p:List UInt8}{v:List Nd}{k:Nat}{x:Nd}(h:PathsK p v k)(hx:v[k]?=some x)(ho:pathL (place p x.path)=true):PathsK p v (k+1):=fun j y hj hy=>by
 rcases Nat.lt_or_ge j k with e|e
 ·exact h j y e hy
 ·have:j=k:=by omega
  subst this;rw[hx]at hy;cases hy;exact ho
theorem paths_all{p:List UInt8}{v:List Nd}{k:Nat}(h:PathsK p v k)(hk:v.length<=k):(v.all fun n=>pathL (place p n.path))=true:=by
 rw[all_eq_true];intro x hx;obtain⟨j,hj⟩:=List.mem_iff_getElem?.1 hx;have:=(List.getElem?_eq_some_iff.1 hj).1;exact h j x (by omega) hj
theorem paths_no{p:List UInt8}{v:List Nd}{k:Nat}{x:Nd}(hx:v[k]?=some x)(ho:pathL (place p x.path)=false):(v.all fun n=>pathL (place p n.path))=false:=by
 rw[<- Bool.not_eq_true,all_eq_true];intro h;have:=h x (mem_of_getElem? hx);rw[ho]at this;cases this
end TP
end
section
namespace TP
open Go NP
theorem sorted_at{t:List Nd}(hs:Sorted t){i j:Nat}{x y:Nd}(hx:t[i]?=some x)(hy:t[j]?=some y)(h:i<j):ordL x.path y.path<0:=by
 obtain⟨hi,rfl⟩:=List.getElem?_eq_some_iff.1 hx;obtain⟨hj,rfl⟩:=List.getElem?_eq_some_iff.1 hy;exact List.pairwise_iff_getElem.1 hs i j hi hj h
structure PlaceAt(t:List Nd)(p:List UInt8)(k:Nat):Prop where
 le:k<=t.length
 ahead:Ahead t p k
 behind:Behind t p k
theorem Ahead.of{t:List Nd}{p:List UInt8}{i:Nat}{x:Nd}(hs:Sorted t)(hx:t[i]?=some x)(ho:ordL x.path p<0):Ahead t p (i+1):=fun j y hj hy=>by
 rcases Nat.lt_or_ge j i with e|e
 ·exact ord_lt (sorted_at hs hy hx e) ho
 ·have:j=i:=by omega
  subst this;rw[hx]at hy;cases hy;exact ho
theorem place_yes{t:List Nd}{p:List UInt8}{k:Nat}{x:Nd}(hs:Sorted t)(hx:t[k]?=some x)(he:x.path=p):findN t p=some x:=by
 rw[<- he];exact find_of hs (mem_of_getElem? hx)
theorem place_no{t:List Nd}{p:List UInt8}{k:Nat}(hs:Sorted t)(h:PlaceAt t p k)(ab:∀ x,t[k]?=some x->x.path≠p):findN t p=none:=by
 unfold findN;rw[List.find?_eq_none];intro n hn;obtain⟨j,hj,e⟩:=getElem_of_mem hn;have ah:t[j]?=some n:=by rw[<- e];exact getElem?_eq_getElem _
 intro he;have he:=of_decide_eq_true he;have aw:¬ ordL n.path p<0:=by rw[he];exact ord_irr p
 rcases Nat.lt_trichotomy j k with e|e|e
 ·exact aw (h.ahead j n e ah)
 ·rw[e]at ah;exact ab n ah he
 ·have hk:k<t.length:=by omega
  have hx:=getElem?_eq_getElem hk;have h1:=sorted_at hs hx ah e;rw[he]at h1;exact h.behind k _ (Nat.le_refl _) hx h1
structure Cut(t:List Nd)(p:List UInt8)(i j:Nat):Prop where
 at_:PlaceAt t p i
 ij:i<=j
 le:j<=t.length
 yes:∀ m x,i<=m->m<j->t[m]?=some x->withinL x.path p=true
 no:∀ m x,j<=m->t[m]?=some x->withinL x.path p=false
theorem within_nil{n:List UInt8}(hn:pathL n=true):withinL n []=true:=by
 unfold withinL Lib.hasPrefix restOk;rw[hn];simp
theorem within_q{n p:List UInt8}(hn:pathL n=true)(hp:p≠[])(h:withinL n p=true):pathL p=true:=by
 cases hq:pathL p with
 | true=>rfl
 | false=>rw[within_noq hn hp hq]at h;cases h
theorem within_mono{t:List Nd}{p:List UInt8}{i a b:Nat}{x y:Nd}(hs:Sorted t)(hp:∀ n∈t,pathL n.path=true)(h:PlaceAt t p i)(ha:i<=a)(hab:a<=b)(hx:t[a]?=some x)(hy:t[b]?=some y)(hw:withinL y.path p=true):withinL x.path p=true:=by
 have aj:=hp x (mem_of_getElem? hx);have aB:=hp y (mem_of_getElem? hy);by_cases h0:p=[]
 ·rw[h0];exact within_nil aj
 ·have a4:=within_q aB h0 hw;have ab:=h.behind a x ha hx;rcases ord_tri x.path p with e|e|e
  ·exact absurd e ab
  ·rw[e];exact within_self a4
  ·rcases Nat.lt_or_ge a b with ac|a9
   ·exact between aj hw e (sorted_at hs hx hy ac)
   ·have:a=b:=by omega
    subst this;rw[hx]at hy;cases hy;exact hw
theorem low_not_within{n p:List UInt8}(hn:pathL n=true)(h:ordL n p<0):withinL n p=false:=by
 rw[Bool.eq_false_iff];intro hw;by_cases h0:p=[]
 ·rw[h0]at h;exact ord_neg h (nil_lt (path_ne hn))
 ·have:=ord_below h0 hw;have:=ordL_swap n p;omega
theorem mem_take{t:List Nd}{i:Nat}{n:Nd}(h:n∈t.take i):∃ m,m<i/\t[m]?=some n:=by
 obtain⟨m,hm,e⟩:=getElem_of_mem h;rw[length_take]at hm;refine⟨m,by omega,?_⟩;rw[<- e,List.getElem_take];exact getElem?_eq_getElem _
theorem mem_drop{t:List Nd}{j:Nat}{n:Nd}(h:n∈t.drop j):∃ m,j<=m/\t[m]?=some n:=by
 obtain⟨m,hm,e⟩:=getElem_of_mem h;rw[length_drop]at hm;refine⟨j+m,by omega,?_⟩;rw[<- e,getElem_drop];exact getElem?_eq_getElem _
theorem mem_mid{t:List Nd}{i j:Nat}{n:Nd}(h:n∈(t.take j).drop i):∃ m,i<=m/\m<j/\t[m]?=some n:=by
 obtain⟨m,hm,e⟩:=getElem_of_mem h;rw[length_drop,length_take]at hm;refine⟨i+m,by omega,by omega,?_⟩;rw[<- e,getElem_drop,List.getElem_take];exact getElem?_eq_getElem _
theorem cut_three(t:List Nd){i j:Nat}(h:i<=j):t=t.take i++((t.take j).drop i++t.drop j):=by
 have e:(t.take j).take i=t.take i:=by rw[List.take_take,Nat.min_eq_left h]
 rw[<- List.append_assoc,← e,take_append_drop,take_append_drop]
theorem filter_all{t:List Nd}{f:Nd->Bool}(h:∀ n∈t,f n=true):t.filter f=t:=List.filter_eq_self.2 h
theorem filter_none{t:List Nd}{f:Nd->Bool}(h:∀ n∈t,f n=false):t.filter f=[]:=List.filter_eq_nil_iff.2 fun n hn=>by rw[h n hn];simp
section
variable {t:List Nd} {p:List UInt8} {i j:Nat}
theorem Cut.a(hp:∀ n∈t,pathL n.path=true)(h:Cut t p i j):∀ n∈t.take i,ordL n.path p<0/\withinL n.path p=false:=fun n hn=>by
 obtain⟨m,hm,e⟩:=mem_take hn;have:=h.at_.ahead m n hm e;exact⟨this,low_not_within (hp n (mem_of_getElem? e)) this⟩
theorem Cut.b(h:Cut t p i j):∀ n∈(t.take j).drop i,¬ ordL n.path p<0/\withinL n.path p=true:=fun n hn=>by
 obtain⟨m,h1,h2,e⟩:=mem_mid hn;exact⟨h.at_.behind m n h1 e,h.yes m n h1 h2 e⟩
theorem Cut.c(h:Cut t p i j):∀ n∈t.drop j,¬ ordL n.path p<0/\withinL n.path p=false:=fun n hn=>by
 obtain⟨m,h1,e⟩:=mem_drop hn;exact⟨h.at_.behind m n (by have:=h.ij;omega) e,h.no m n h1 e⟩
theorem Cut.filter(hp:∀ n∈t,pathL n.path=true)(h:Cut t p i j):(t.filter fun n=>withinL n.path p)=(t.take j).drop i:=by
 conv=>lhs;rw[cut_three t h.ij]
 rw[filter_append,filter_append,filter_none (fun n hn=>(h.a hp n hn).2),filter_all (fun n hn=>(h.b n hn).2),filter_none (fun n hn=>(h.c n hn).2)];simp
theorem Cut.low(hp:∀ n∈t,pathL n.path=true)(h:Cut t p i j):t.filter (lowN p)=t.take i:=by
 conv=>lhs;rw[cut_three t h.ij]
 rw[filter_append,filter_append,filter_all,filter_none,filter_none]
 ·simp
 ·intro n hn;unfold lowN;rw[decide_eq_false (h.c n hn).1];simp
 ·intro n hn;unfold lowN;rw[decide_eq_false (h.b n hn).1];simp
 ·intro n hn;unfold lowN;rw[(h.a hp n hn).2,decide_eq_true (h.a hp n hn).1];rfl
theorem Cut.high(hp:∀ n∈t,pathL n.path=true)(h:Cut t p i j):t.filter (highN p)=t.drop j:=by
 conv=>lhs;rw[cut_three t h.ij]
 rw[filter_append,filter_append,filter_none,filter_none,filter_all]
 ·simp
 ·intro n hn;unfold highN;rw[(h.c n hn).2,decide_eq_false (h.c n hn).1];rfl
 ·intro n hn;unfold highN;rw[(h.b n hn).2];simp
 ·intro n hn;unfold highN;rw[decide_eq_true (h.a hp n hn).1];simp
theorem Cut.out(hp:∀ n∈t,pathL n.path=true)(h:Cut t p i j)(v:List Nd):outL t p v=t.take i++(v.map (placeN p)++t.drop j):=by
 rw[<- h.low hp,← h.high hp];rfl
theorem Cut.len(hp:∀ n∈t,pathL n.path=true)(h:Cut t p i j)(v:List Nd):(outL t p v).length=t.length-(j-i)+v.length:=by
 have:=h.ij;have:=h.le;rw[h.out hp,length_append,length_append,List.length_map,length_take,length_drop];omega
end
theorem trim_no{l:List UInt8}(h:l.head?≠some 47):Lib.trimPrefix l [47]=l:=by
 unfold Lib.trimPrefix Lib.hasPrefix
 cases l with
 | nil=>rfl
 | cons x r =>
  rw[if_neg];intro e;simp[List.isPrefixOf]at e;exact h (by simp[e])
theorem path_head{n:List UInt8}(h:pathL n=true):n.head?≠some 47:=by
 cases n with
 | nil=>simp
 | cons x r =>
  intro e;simp at e;subst e;have:=path_pre (q:=[]) (r:=r) h;rw[path_nil]at this;cases this
theorem trim_pre(p r:List UInt8):Lib.trimPrefix (p++r) p=r:=by
 unfold Lib.trimPrefix Lib.hasPrefix;rw[if_pos (List.isPrefixOf_iff_prefix.2 ⟨r,rfl⟩),drop_left]
def underN(p:List UInt8)(n:Nd):Nd:={ n with path:=Lib.trimSuffix (p++47::n.path) [47] }
theorem suffix_snoc(l:List UInt8):Lib.trimSuffix (l++[47]) [47]=l:=by
 unfold Lib.trimSuffix Lib.hasSuffix;rw[if_pos (List.isSuffixOf_iff_suffix.2 ⟨l,rfl⟩)];simp
theorem suffix_no{l:List UInt8}(h:l.getLast?≠some 47):Lib.trimSuffix l [47]=l:=by
 unfold Lib.trimSuffix Lib.hasSuffix;rw[if_neg];intro e;obtain⟨r,e⟩:=List.isSuffixOf_iff_suffix.1 e;exact h (by rw[<- e];simp)
theorem path_last{n:List UInt8}(h:pathL n=true):n.getLast?≠some 47:=by
 intro e;obtain⟨r,rfl⟩:=List.getLast?_eq_some_iff.1 e;exact path_tail_ne (p:=r) (r:=[]) h rfl
theorem under_place{p:List UInt8}{n:Nd}(h:n.path=[]\/pathL n.path=true):underN p n=placeN p n:=by
 unfold underN placeN;congr 1;rcases h with h|h
 ·rw[h,place_nil];exact suffix_snoc p
 ·rw[place_ne p (path_ne h)];refine suffix_no ?_;have:=path_last h;rw[List.getLast?_append];intro e;apply this;have aa:=path_ne h;obtain⟨x,r,hx⟩:=exists_cons_of_ne_nil aa;rw[hx]at e ⊢;simpa using e
theorem under_all{p:List UInt8}{v:List Nd}(h:rightV v=true):v.map (underN p)=v.map (placeN p):=List.map_congr_left fun n hn=>under_place (((val_iff v).1 h).path n hn)
def goesB(l:List Nd)(p:List UInt8):Bool:=(match l.getLast? with|none=>true|some y=>decide (ordL y.path p<0))&&dirB l (parentL p)
theorem sorted_pre{a b:List Nd}(h:Sorted (a++b)):Sorted a:=(List.pairwise_append.1 h).1
theorem tree_prefix{a b:List Nd}(h:Tree (a++b)):Tree a:=by
 refine⟨?_,sorted_pre h.sorted,fun n hn=>h.path n (mem_append_left _ hn),fun n hn=>h.right n (mem_append_left _ hn),fun n hn=>?_⟩
 ·have:=h.len;rw[length_append]at this;omega
 ·rcases h.dir n (mem_append_left _ hn)with e|⟨d,hd,e,k⟩
  ·exact .inl e
  ·rcases List.mem_append.1 hd with hd|hd
   ·exact .inr ⟨d,hd,e,k⟩
   ·have h1:ordL n.path d.path<0:=(List.pairwise_append.1 h.sorted).2.2 n hn d hd;have h2:=up_lt (h.path n (mem_append_left _ hn));rw[e]at h1;exact absurd h1 (ord_neg h2)
theorem tree_take{t:List Nd}(h:treeB t=true)(k:Nat):treeB (t.take k)=true:=by
 have:=(tree_iff t).1 h;rw[<- take_append_drop k t]at this;exact(tree_iff _).2 (tree_prefix this)
theorem sorted_snoc{l:List Nd}{x:Nd}(hl:Sorted l):Sorted (l++[x])↔(match l.getLast? with|none=>true|some y=>decide (ordL y.path x.path<0))=true:=by
 rcases List.eq_nil_or_concat l with rfl|⟨r,y,rfl⟩
 ·simp[Sorted]
 ·rw[List.concat_eq_append]at hl ⊢;rw[List.getLast?_append,List.getLast?_singleton];simp only[Option.some_or,decide_eq_true_eq];have a6:=hl;unfold Sorted at hl ⊢;rw[List.pairwise_append];constructor
  ·rintro ⟨_,_,h⟩;exact h y (by simp) x (by simp)
  ·intro h;refine⟨a6,List.pairwise_singleton _ _,fun n hn m hm=>?_⟩;rw[mem_singleton]at hm;subst hm;rcases List.mem_append.1 hn with hn|hn
   ·exact ord_lt ((List.pairwise_append.1 hl).2.2 n hn y (by simp)) h
   ·rw[mem_singleton]at hn;subst hn;exact h
theorem tree_snoc{l:List Nd}{x:Nd}(hl:treeB l=true)(hm:l.length<1000):treeB (l++[x])=(pathL x.path&&rightB x&&goesB l x.path):=by
 have ht:=(tree_iff l).1 hl;rw[Bool.eq_iff_iff,tree_iff,Bool.and_eq_true,Bool.and_eq_true];unfold goesB;rw[Bool.and_eq_true,← sorted_snoc ht.sorted];constructor
 ·intro h;have aj:=h.path x (by simp);refine⟨⟨aj,h.right x (by simp)⟩,h.sorted,?_⟩;rw[show parentL x.path=upL x.path by unfold parentL;rw[if_pos aj]];refine(dir_iff ht.sorted _).2 ?_;rcases h.dir x (by simp)with e|⟨d,hd,e,k⟩
  ·exact .inl e
  ·rcases List.mem_append.1 hd with hd|hd
   ·exact .inr ⟨d,hd,e,k⟩
   ·rw[mem_singleton]at hd;subst hd;have:=up_lt aj;rw[<- e]at this;exact absurd this (ord_irr _)
 ·rintro ⟨⟨h1,h2⟩,h3,h4⟩;rw[show parentL x.path=upL x.path by unfold parentL;rw[if_pos h1]]at h4;have h5:=(dir_iff ht.sorted _).1 h4
  have up:∀ q,Dir l q->Dir (l++[x]) q:=fun q hq=>by
   rcases hq with e|⟨d,hd,e,k⟩
   ·exact .inl e
   ·exact .inr ⟨d,mem_append_left _ hd,e,k⟩
  refine⟨by rw[length_append,List.length_singleton];omega,h3,fun n hn=>?_,fun n hn=>?_,fun n hn=>?_⟩
  ·rcases List.mem_append.1 hn with hn|hn
   ·exact ht.path n hn
   ·rw[mem_singleton]at hn;subst hn;exact h1
  ·rcases List.mem_append.1 hn with hn|hn
   ·exact ht.right n hn
   ·rw[mem_singleton]at hn;subst hn;exact h2
  ·rcases List.mem_append.1 hn with hn|hn
   ·exact up _ (ht.dir n hn)
   ·rw[mem_singleton]at hn;subst hn;exact up _ h5
theorem tree_step{t:List Nd}{k:Nat}{x:Nd}(hx:t[k]?=some x)(h:treeB (t.take k)=true)(hm:t.length<=1000):treeB (t.take (k+1))=(pathL x.path&&rightB x&&goesB (t.take k) x.path):=by
 have hk:=(List.getElem?_eq_some_iff.1 hx).1;rw[take_add_one,hx,Option.toList_some];exact tree_snoc h (by rw[length_take];omega)
theorem tree_stop{t:List Nd}{k:Nat}(h:treeB (t.take k)=false):treeB t=false:=by
 rw[Bool.eq_false_iff];intro e;rw[tree_take e k]at h;cases h
end TP
end
section
namespace DP
open Go NP TP
structure Ino where
 time:Int
 kind:Int
 mode:Int
 data:List UInt8
 dirty:Bool
structure Fate where
 at_:Int
 what:Int
 keep:Int
 torn:Int
structure Edit where
 at_:Int
 path:List UInt8
 value:List Nd
structure Did where
 call:List UInt8
 path:List UInt8
 to:List UInt8
structure Dk where
 names:List Nd
 safe:List Nd
 later:List (List Nd)
 inos:List Ino
 off:Bool
 clock:Nat
 trace:List Did
 fates:List Fate
 edits:List Edit
def inoZ:Ino:=⟨0,0,0,[],false⟩
def inoOf(I:List Ino)(k:Int):Ino:=I.getD (k.toNat-1) inoZ
def en(p:List UInt8)(k:Int):Nd:=⟨p,k,[],0⟩
def nodeOf(I:List Ino)(e:Nd):Nd:=⟨e.path,(inoOf I e.kind).kind,(inoOf I e.kind).data,(inoOf I e.kind).mode⟩
def treeD(D:Dk):List Nd:=D.names.map (nodeOf D.inos)
def kindN(I:List Ino)(ns:List Nd)(p:List UInt8):Int :=
 if p=[]then 2 else match findN ns p with|some e=>(inoOf I e.kind).kind|none=>0
def delE(ns:List Nd)(p:List UInt8):List Nd:=ns.filter fun e=>decide (e.path≠p)
def insE(ns:List Nd)(e:Nd):List Nd:=(ns.filter fun x=>decide (ordL x.path e.path<0))++e::ns.filter fun x=>!decide (ordL x.path e.path<0)
def putE(ns:List Nd)(e:Nd):List Nd:=if e.kind=0 then delE ns e.path else insE (delE ns e.path) e
def withE(ns:List Nd)(c:List Nd):List Nd:=c.foldl putE ns
def inE(ns:List Nd)(p:List UInt8):List Nd:=ns.filter fun e=>withinL e.path p
def outE(ns:List Nd)(p:List UInt8):List Nd:=(inE ns p).map fun e=>en e.path 0
def changeD(D:Dk)(c:List Nd):Dk:={ D with names:=withE D.names c,later:=D.later++[withE D.names c] }
def freshI(D:Dk)(n:Nd):Ino:=⟨D.clock,n.kind,n.mode,n.data,false⟩
def freshD(D:Dk)(n:Nd):Dk:={ D with inos:=D.inos++[freshI D n] }
def freshE(D:Dk)(n:Nd):Nd:=en n.path (D.inos.length+1:Nat)
def freshes(D:Dk)(ns:List Nd):List Nd:=ns.mapIdx fun i n=>en n.path (D.inos.length+1+i:Nat)
def settleD(D:Dk):Dk:={ D with safe:=D.names,later:=[] }
def editC(D:Dk)(p:List UInt8)(t:List Nd):Dk :=
 changeD { D with inos:=D.inos++(inE t p).map (freshI D) } (outE D.names p++freshes D (inE t p))
def editD(D:Dk)(p:List UInt8)(v:List Nd):Dk :=
 if(putL (treeD D) p v).2=0 then editC D p (putL (treeD D) p v).1 else D
def editsD(D:Dk)(n:Nat)(es:List Edit):Dk:=es.foldl (fun(X:Dk) (e:Edit)=>if e.at_=(n:Int)then editD X e.path e.value else X) D
def fateZ:Fate:=⟨0,0,0,0⟩
def fateOf(fs:List Fate)(n:Int):Fate:=(fs.find? fun f=>decide (f.at_=n)).getD fateZ
def fateD(D:Dk):Fate:=fateOf D.fates ((D.trace.length:Int)-1)
def clean(torn:Int)(i:Ino):Ino:=if i.dirty=true then { i with data:=i.data.take torn.toNat,dirty:=false } else i
def keepN(D:Dk)(keep:Int):Nat:=min keep.toNat D.later.length
def keptD(D:Dk)(keep:Int):List Nd:=if keepN D keep=0 then D.safe else D.later.getD (keepN D keep-1) []
def crashD(D:Dk)(keep torn:Int):Dk :=
 { D with names:=keptD D keep,safe:=keptD D keep,later:=[],inos:=D.inos.map (clean torn),off:=true }
def begunD(D:Dk)(c:Did):Dk :=
 let E:=editsD { D with clock:=D.clock+1 } D.trace.length D.edits
 { E with trace:=E.trace++[c] }
def stepD(D:Dk)(c:Did):Dk×Int :=
 if D.off=true then(D,75)
 else if(fateD (begunD D c)).what=3 then(crashD (begunD D c) (fateD (begunD D c)).keep (fateD (begunD D c)).torn,75)
 else if(fateD (begunD D c)).what=1 then(begunD D c,70)
 else(begunD D c,0)
def firstE:List Int->Int
 | []=>0
 | e::r=>if e=0 then firstE r else e
def whenE(b:Bool)(e:Int):Int:=if b=true then e else 0
def standB(n:Nd):Bool:=rightV [{ n with path:=[] }]
def upB(D:Dk)(p:List UInt8):Bool:=decide (kindN D.inos D.names (parentL p)=2)
def kindD(D:Dk)(p:List UInt8):Int:=kindN D.inos D.names p
def roomB(D:Dk)(p:List UInt8):Bool:=decide ((fateD D).what≠2)&&!(decide (kindD D p=0)&&decide (1000<=D.names.length))
def setI(D:Dk)(p:List UInt8)(f:Ino->Ino):Dk :=
 match findN D.names p with
 | some e=>{ D with inos:=D.inos.set (e.kind.toNat-1) (f (inoOf D.inos e.kind)) }
 | none=>D
def wroteI(D:Dk)(data:List UInt8)(mode:Int)(i:Ino):Ino:={ i with data:=data,mode:=mode,time:=D.clock,dirty:=true }
def writeE(D:Dk)(p data:List UInt8)(mode:Int):Int :=
 firstE [whenE (!pathL p) 11,whenE (!standB ⟨p,1,data,mode⟩) 2,whenE (!upB D p) 62,whenE (decide (kindD D p=2)||decide (kindD D p=3)) 73,whenE (!roomB D p) 71]
def wroteD(D:Dk)(p data:List UInt8)(mode:Int):Dk :=
 let E:=if kindD D p=0 then changeD (freshD D ⟨p,1,data,mode⟩) [freshE D ⟨p,1,data,mode⟩]else D
 setI E p (wroteI E data mode)
def layE(D:Dk)(n:Nd):Int :=
 firstE [whenE (!pathL n.path) 11,whenE (!standB n) 2,whenE (!upB D n.path) 62,whenE (!decide (kindD D n.path=0)) 72,whenE (!roomB D n.path) 71]
def laidD(D:Dk)(n:Nd):Dk:=changeD (freshD D n) [freshE D n]
def removeE(D:Dk)(p:List UInt8):Int :=
 firstE [whenE (!pathL p) 11,whenE (decide (kindD D p=0)) 74,whenE (decide (1<(inE D.names p).length)) 72]
def moveE(D:Dk)(p q:List UInt8):Int :=
 firstE [whenE (!pathL p||!pathL q) 11,whenE (withinL q p) 2,whenE (decide (kindD D p=0)) 74,whenE (!decide (kindD D q=0)) 72,whenE (!upB D q) 62]
def movedC(D:Dk)(p q:List UInt8):List Nd:=outE D.names p++(inE D.names p).map fun e=>en (q++e.path.drop p.length) e.kind
def replaceE(D:Dk)(p q:List UInt8):Int :=
 firstE [whenE (!pathL p||!pathL q) 11,whenE (decide (q=p)) 2,whenE (decide (kindD D p=0)) 74,whenE (decide (kindD D p=2)||decide (kindD D q=2)) 73,whenE (!upB D q) 62]
def inoN(ns:List Nd)(p:List UInt8):Int:=match findN ns p with|some e=>e.kind|none=>0
def syncE(D:Dk)(p:List UInt8):Int:=firstE [whenE (!pathL p) 11,whenE (decide (kindD D p=0)) 74]
def missE(D:Dk)(p:List UInt8):Int:=firstE [whenE (!decide (p=[])&&!pathL p) 11,whenE (decide (kindD D p=0)) 74]
def after(r:Dk×Int)(f:Dk->Dk×Int):Dk×Int:=if r.2=0 then f r.1 else r
def refuse(e:Int)(D D':Dk):Dk×Int:=if e=0 then(D',0)else(D,e)
def cWrite:List UInt8:=[87,114,105,116,101]
def cMkdir:List UInt8:=[77,107,100,105,114]
def cLink:List UInt8:=[76,105,110,107]
def cRemove:List UInt8:=[82,101,109,111,118,101]
def cMove:List UInt8:=[77,111,118,101]
def cReplace:List UInt8:=[82,101,112,108,97,99,101]
def cSync:List UInt8:=[83,121,110,99]
def cFlush:List UInt8:=[70,108,117,115,104]
def cGet:List UInt8:=[71,101,116]
def cNames:List UInt8:=[78,97,109,101,115]
def writeD(D:Dk)(p data:List UInt8)(mode:Int):Dk×Int:=after (stepD D ⟨cWrite,p,[]⟩) fun E=>refuse (writeE E p data mode) E (wroteD E p data mode)
def mkdirD(D:Dk)(p:List UInt8):Dk×Int:=after (stepD D ⟨cMkdir,p,[]⟩) fun E=>refuse (layE E ⟨p,2,[],0⟩) E (laidD E ⟨p,2,[],0⟩)
def linkD(D:Dk)(p q:List UInt8):Dk×Int:=after (stepD D ⟨cLink,p,q⟩) fun E=>refuse (layE E ⟨p,3,q,0⟩) E (laidD E ⟨p,3,q,0⟩)
def removeD(D:Dk)(p:List UInt8):Dk×Int:=after (stepD D ⟨cRemove,p,[]⟩) fun E=>refuse (removeE E p) E (changeD E [en p 0])
def moveD(D:Dk)(p q:List UInt8):Dk×Int:=after (stepD D ⟨cMove,p,q⟩) fun E =>
 if moveE E p q=0 then(if((movedC E p q).any fun e=>!pathL e.path)=true then(E,11)else(changeD E (movedC E p q),0))else(E,moveE E p q)
def replaceD(D:Dk)(p q:List UInt8):Dk×Int:=after (stepD D ⟨cReplace,p,q⟩) fun E=>refuse (replaceE E p q) E (changeD E [en p 0,en q (inoN E.names p)])
def syncI(i:Ino):Ino:={ i with dirty:=false }
def syncD(D:Dk)(p:List UInt8):Dk×Int:=after (stepD D ⟨cSync,p,[]⟩) fun E=>refuse (syncE E p) E (setI E p syncI)
def flushD(D:Dk):Dk×Int:=after (stepD D ⟨cFlush,[],[]⟩) fun E=>(settleD E,0)
structure Stamp where
 ino:Int
 size:Int
 time:Int
def gotN(D:Dk)(p:List UInt8):Nd:=if p=[]then⟨[],2,[],0⟩else match findN D.names p with|some e=>{ nodeOf D.inos e with path:=p }|none=>⟨p,0,[],0⟩
def gotS(D:Dk)(p:List UInt8):Stamp:=if p=[]then⟨0,0,0⟩else match findN D.names p with|some e=>⟨e.kind,(inoOf D.inos e.kind).data.length,(inoOf D.inos e.kind).time⟩|none=>⟨0,0,0⟩
def nodeZ:Nd:=⟨[],0,[],0⟩
def stampZ:Stamp:=⟨0,0,0⟩
def getD(D:Dk)(p:List UInt8):Dk×(Nd×Stamp×Int) :=
 let r:=after (stepD D ⟨cGet,p,[]⟩) fun E=>refuse (missE E p) E E
 if r.2=0 then(r.1,(gotN r.1 p,gotS r.1 p,0))else(r.1,(nodeZ,stampZ,r.2))
def restL(p q:List UInt8):List UInt8:=Lib.trimPrefix (Lib.trimPrefix q p) [47]
def lastsL(ns:List Nd)(p:List UInt8):List (List UInt8):=((inE ns p).map fun e=>restL p e.path).filter fun r=>!decide (r=[])&&!decide (47∈r)
def namesD(D:Dk)(p:List UInt8):Dk×(List (List UInt8)×Int) :=
 let r:=after (stepD D ⟨cNames,p,[]⟩) fun E=>refuse (firstE [missE E p,whenE (!decide (kindD E p=2)) 73]) E E
 if r.2=0 then(r.1,(lastsL r.1.names p,0))else(r.1,([],r.2))
def bootD(D:Dk)(fs:List Fate)(es:List Edit):Dk:={ D with off:=false,trace:=[],fates:=fs,edits:=es }
def emptyD:Dk:=⟨[],[],[],[],false,0,[],[],[]⟩
def newD(t:List Nd):Dk:=settleD { emptyD with names:=freshes emptyD t,inos:=t.map (freshI emptyD) }
structure Row(m:Nat)(ns:List Nd):Prop where
 sorted:Sorted ns
 path:∀ e∈ns,pathL e.path=true
 len:ns.length<=1000
 ino:∀ e∈ns,∃ k:Nat,e=en e.path k/\1<=k/\k<=m
theorem Row.mono{m n:Nat}{ns:List Nd}(h:Row m ns)(hm:m<=n):Row n ns:=⟨h.sorted,h.path,h.len,fun e he=>by
 obtain⟨k,e1,e2,e3⟩:=h.ino e he
 exact⟨k,e1,e2,by omega⟩⟩
theorem Row.nil(m:Nat):Row m []:=⟨List.Pairwise.nil,by simp,by simp,by simp⟩
structure CRow(m:Nat)(c:List Nd):Prop where
 path:∀ e∈c,pathL e.path=true
 ino:∀ e∈c,∃ k:Nat,e=en e.path k/\k<=m
theorem CRow.mono{m n:Nat}{c:List Nd}(h:CRow m c)(hm:m<=n):CRow n c:=⟨h.path,fun e he=>by
 obtain⟨k,h1,h2⟩:=h.ino e he
 exact⟨k,h1,by omega⟩⟩
structure Fit(D:Dk):Prop where
 names:Row D.inos.length D.names
 safe:Row D.inos.length D.safe
 later:∀ l∈D.later,Row D.inos.length l
 data:∀ i∈D.inos,i.data.length<=65536
end DP
end
section
open Go.RowKit Go.Lib
namespace OM
theorem owns_below{w w':World}{base e size:Nat}{v:Value}{n:Nat}{xs:List Value}(h:w.ownsRow base e size v n xs)(hb:Below w.heap.size w w'):w'.ownsRow base e size v n xs:=by
 refine⟨h.1,?_⟩;rcases h.2 with hn|⟨g,cap,ad,rfl,ag,ai,rest⟩
 ·exact .inl hn
 ·exact .inr ⟨g,cap,ad,rfl,ag,by rw[hb.block g (Array.getElem?_eq_some_iff.1 ai).1];exact ai,rest⟩
theorem owns_base{w:World}{base e size:Nat}{v:Value}{n:Nat}{xs:List Value}(h:w.ownsRow base e size v n xs)(base':Nat)(hb:base'<=base):w.ownsRow base' e size v n xs:=by
 refine⟨h.1,?_⟩;rcases h.2 with hn|⟨g,cap,ad,rfl,ag,rest⟩
 ·exact .inl hn
 ·exact .inr ⟨g,cap,ad,rfl,by omega,rest⟩
theorem owns_kind{w:World}{base e size:Nat}{v:Value}{n:Nat}{xs:List Value}(h:w.ownsRow base e size v n xs):∀ g,v.ownBlock=some g->∃ c fz,w.heap[g]?=some (.cells c e fz):=by
 intro g hg;rcases h.2 with ⟨rfl,_⟩|⟨g',cap,ad,rfl,_,ai,_⟩
 ·simp[Value.ownBlock]at hg
 ·simp[Value.ownBlock]at hg;subst hg;exact⟨ad,_,ai⟩
theorem owns_view{w:World}{base e size:Nat}{v:Value}{n:Nat}{xs:List Value}(h:w.ownsRow base e size v n xs):∃ ao c,v=.slice ao n c/\(0<n->∃ g,ao=some ⟨g,0,none⟩/\g<w.heap.size/\base<=g/\∀ j,j<n*size->w.cell? ⟨g,j,none⟩=xs[j]?):=by
 have h0:=h;rcases h.2 with ⟨rfl,rfl⟩|⟨g,cap,ad,rfl,hb,ai,_⟩
 ·exact⟨none,0,rfl,fun h=>absurd h (Nat.lt_irrefl _)⟩
 ·exact⟨_,cap,rfl,fun _=>⟨g,rfl,(Array.getElem?_eq_some_iff.1 ai).1,hb,fun j hj=>h0.cellAt j hj⟩⟩
theorem owns_len{w:World}{base e size:Nat}{v:Value}{n:Nat}{xs:List Value}(h:w.ownsRow base e size v n xs):n<=maxLen:=by
 rcases h.2 with ⟨_,rfl⟩|⟨g,cap,ad,_,_,_,h1,h2,_⟩
 ·exact Nat.zero_le _
 ·omega
theorem one_new(w:World)(x:Value)(t:TypeId):∀(j:Nat) (u:Value),[x][j]?=some u->(w.alloc (.cells #[x] t)).cell? ((⟨w.heap.size,0,none⟩:Addr).add j)=some u:=by
 intro j u hj
 match j with
 | 0 =>
  simp at hj;subst hj;have e:(⟨w.heap.size,0,none⟩:Addr).add 0=⟨w.heap.size,0,none⟩:=rfl;rw[e,World.cell?_alloc_at _ _ _ _ rfl];rfl
 | j+1=>simp at hj
theorem onB{f:FuncId}{a:Array Value}{V w:World}{R:Ending}{post:Ending->World->Prop}(h:Calls Tryz.prog f a V fun r W'=>r=R/\Below V.heap.size V W')(hb:RowKit.Hid (Below w.heap.size w V))(hk:∀ W',RowKit.Hid (Below w.heap.size w W')->post R W'):Calls Tryz.prog f a V post:=h.mono fun r W' hh=>by
 obtain⟨rfl,h2⟩:=hh;exact hk W' (hid (Below.trans hb.out (h2.mono hb.out.size)))
end OM
end
section
open Go.RowKit Go.Lib
namespace TM
open OM TP
def txt(l:List UInt8):Value:=.string ⟨l.toArray⟩
def ndCells(n:Nd):List Value:=[txt n.path,.int .i64 n.kind,txt n.data,.int .i64 n.mode]
def ndVal(n:Nd):Value:=.agg #[txt n.path,.int .i64 n.kind,txt n.data,.int .i64 n.mode]
def nodesC(ts:List Nd):List Value:=ts.flatMap ndCells
structure NodeAt(W:World)(g o:Nat)(n:Nd):Prop where
 p:W.cell? ⟨g,o,none⟩=some (txt n.path)
 k:W.cell? ⟨g,o+1,none⟩=some (.int .i64 n.kind)
 d:W.cell? ⟨g,o+2,none⟩=some (txt n.data)
 m:W.cell? ⟨g,o+3,none⟩=some (.int .i64 n.mode)
theorem NodeAt.below{W W':World}{g o:Nat}{n:Nd}(h:NodeAt W g o n)(hg:g<W.heap.size)(hb:Below W.heap.size W W'):NodeAt W' g o n :=
 ⟨(hb.cell (p:=⟨g,o,none⟩) hg).trans h.p,(hb.cell (p:=⟨g,o+1,none⟩) hg).trans h.k,(hb.cell (p:=⟨g,o+2,none⟩) hg).trans h.d,(hb.cell (p:=⟨g,o+3,none⟩) hg).trans h.m⟩
def LayN(W:World)(ao:Option Addr)(ts:List Nd):Prop :=
 0<ts.length->∃ g o,ao=some ⟨g,o,none⟩/\g<W.heap.size/\∀(k:Nat) (n:Nd),ts[k]?=some n->NodeAt W g (o+k*4) n
theorem LayN.below{W W':World}{ao:Option Addr}{ts:List Nd}(h:LayN W ao ts)(hb:Below W.heap.size W W'):LayN W' ao ts:=fun h0=>by
 obtain⟨g,o,e,ac,hc⟩:=h h0;exact⟨g,o,e,Nat.lt_of_lt_of_le ac hb.size,fun k n hk=>(hc k n hk).below ac hb⟩
theorem LayN.nil(W:World)(ao:Option Addr):LayN W ao []:=fun h=>absurd h (by simp)
theorem nodes_len(ts:List Nd):(nodesC ts).length=ts.length*4:=by
 induction ts with
 | nil=>rfl
 | cons n ts ih =>
  show(ndCells n++nodesC ts).length=_;rw[length_append,ih,length_cons];show 4+_=_;omega
theorem nodes_at:∀(ts:List Nd) (k:Nat) (n:Nd),ts[k]?=some n->(nodesC ts)[k*4]?=some (txt n.path)/\(nodesC ts)[k*4+1]?=some (.int .i64 n.kind)/\(nodesC ts)[k*4+2]?=some (txt n.data)/\(nodesC ts)[k*4+3]?=some (.int .i64 n.mode)
 | [],k,n,h=>by simp at h
 | x::ts,0,n,h=>by
  simp at h;subst h;exact⟨rfl,rfl,rfl,rfl⟩
 | x::ts,k+1,n,h=>by
  rw[List.getElem?_cons_succ]at h;have ih:=nodes_at ts k n h
  have e:∀ j,(nodesC (x::ts))[(k+1)*4+j]?=(nodesC ts)[k*4+j]?:=fun j=>by
   show(ndCells x++nodesC ts)[_]?=_;rw[List.getElem?_append_right (by show 4<=_;omega)];congr 1;show _-4=_;omega
  exact⟨(e 0).trans ih.1,(e 1).trans ih.2.1,(e 2).trans ih.2.2.1,(e 3).trans ih.2.2.2⟩
theorem lay_own{w:World}{B:Nat}{v:Value}{ts:List Nd}(h:w.ownsRow B 45 4 v ts.length (nodesC ts)):∃ ao c,v=.slice ao ts.length c/\LayN w ao ts:=by
 obtain⟨ao,c,rfl,hx⟩:=owns_view h;refine⟨ao,c,rfl,fun h0=>?_⟩;obtain⟨g,rfl,hg,_,hc⟩:=hx h0;refine⟨g,0,rfl,hg,fun k n hk=>?_⟩;have aD:=(List.getElem?_eq_some_iff.1 hk).1;obtain⟨a,b,c,d⟩:=nodes_at ts k n hk;rw[Nat.zero_add];exact⟨(hc _ (by omega)).trans a,(hc _ (by omega)).trans b,(hc _ (by omega)).trans c,(hc _ (by omega)).trans d⟩
theorem nodes_snoc(ts:List Nd)(n:Nd):nodesC (ts++[n])=nodesC ts++ndCells n:=by
 unfold nodesC;rw[List.flatMap_append,List.flatMap_singleton]
theorem txt_data(s:ByteArray):txt s.data.toList=.string s:=by
 unfold txt;congr 1
end TM
end
end Go.Proofs.YtkmcjededpamnaaGreatDoor
