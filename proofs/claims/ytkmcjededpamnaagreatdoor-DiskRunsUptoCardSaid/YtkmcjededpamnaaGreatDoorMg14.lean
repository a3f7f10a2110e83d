import Derived.Test.YtkmcjededpamnaaGreatDoorMg10
import Derived.Test.YtkmcjededpamnaaGreatDoorMg9
import Derived.Test.YtkmcjededpamnaaGreatDoorMg1
import Derived.Test.YtkmcjededpamnaaGreatDoorRkCrash
set_option linter.all false
set_option maxRecDepth 100000
set_option maxHeartbeats 0
namespace Go.Proofs.YtkmcjededpamnaaGreatDoor
open List(length_append getElem?_eq_getElem length_take mem_append length_map mem_cons mem_singleton getD_eq_getElem?_getD map_cons mem_cons_self mem_cons_of_mem getElem_mapIdx)
section
open Go.RowKit Go.Lib Go.BigFrame
namespace RK
open OM TP TM DP DM FP DG TG TR
theorem posR_ge(S:List Nd)(x:Nd):∀(k j:Nat),k<=S.length->posR S x k<=j->j<k->∃ y,S[j]?=some y/\0<NP.ordL y.path x.path
 | 0,j,_,_,hj=>absurd hj (by omega)
 | k+1,j,hk,hp,hj=>by
  unfold posR at hp;by_cases h:0<NP.ordL ((S[k]?).getD x).path x.path
  ·rw[if_pos h]at hp;by_cases e:j=k
   ·subst e;have ak:S[j]?=some S[j]:=getElem?_eq_getElem (by omega);rw[ak]at h;exact⟨_,ak,h⟩
   ·exact posR_ge S x k j (by omega) hp (by omega)
  ·rw[if_neg h]at hp;omega
theorem posR_top(S:List Nd)(x:Nd):∀(k p:Nat),k<=S.length->posR S x k=p+1->∃ y,S[p]?=some y/\NP.ordL y.path x.path<=0
 | 0,p,_,h=>by unfold posR at h;omega
 | k+1,p,hk,h=>by
  unfold posR at h;by_cases h1:0<NP.ordL ((S[k]?).getD x).path x.path
  ·rw[if_pos h1]at h;exact posR_top S x k p (by omega) h
  ·rw[if_neg h1]at h;obtain rfl:k=p:=by omega
   have ak:S[k]?=some S[k]:=getElem?_eq_getElem (by omega);rw[ak]at h1;exact⟨_,ak,Int.not_lt.1 h1⟩
theorem insR_iff{S:List Nd}{x e:Nd}:e∈insR S x↔e=x\/e∈S:=by
 unfold insR;rw[mem_append,mem_cons];constructor
 ·rintro (h|h|h)
  ·exact .inr (List.mem_of_mem_take h)
  ·exact .inl h
  ·exact .inr (List.mem_of_mem_drop h)
 ·rintro (h|h)
  ·exact .inr (.inl h)
  ·rw[<- List.take_append_drop (posR S x S.length) S,mem_append]at h;exact h.imp id .inr
theorem insR_sorted{S:List Nd}{x:Nd}(hs:Sorted S)(aa:∀ y∈S,y.path≠x.path):Sorted (insR S x):=by
 obtain⟨k,hk⟩:∃ k,posR S x S.length=k:=⟨_,rfl⟩;have aZ:k<=S.length:=by rw[<- hk];exact posR_le S x _
 have aE:∀ y∈S.take k,lt y x:=fun y hy=>by
  obtain⟨j,hj⟩:=List.getElem?_of_mem hy
  have aR:j<k:=by
   have:=(List.getElem?_eq_some_iff.1 hj).1;rw[length_take]at this;omega
  rw[List.getElem?_take_of_lt aR]at hj;obtain⟨p,rfl⟩:∃ p,k=p+1:=⟨k-1,by omega⟩;obtain⟨z,hz,h0⟩:=posR_top S x S.length p (Nat.le_refl _) hk
  have aA:NP.ordL z.path x.path<0:=by
   have h3:NP.ordL z.path x.path≠0:=fun e=>aa z (List.mem_of_getElem? hz) ((NP.ordL_zero _ _).1 e);omega
  show NP.ordL y.path x.path<0;by_cases e:j=p
  ·subst e;rw[hz]at hj;injection hj with hj;rw[<- hj];exact aA
  ·obtain⟨aJ,ak⟩:=List.getElem?_eq_some_iff.1 hj;obtain⟨aS,aV⟩:=List.getElem?_eq_some_iff.1 hz;have h3:=List.pairwise_iff_getElem.1 hs j p aJ aS (by omega);rw[ak,aV]at h3;exact NP.ordL_lt h3 (Int.le_of_lt aA)
 have a8:∀ y∈S.drop k,lt x y:=fun y hy=>by
  obtain⟨j,hj⟩:=List.getElem?_of_mem hy;rw[List.getElem?_drop]at hj;have aM:=(List.getElem?_eq_some_iff.1 hj).1;obtain⟨z,hz,h0⟩:=posR_ge S x S.length (k+j) (Nat.le_refl _) (by rw[hk];omega) aM;rw[hj]at hz;injection hz with hz;subst hz;show NP.ordL x.path y.path<0;rw[NP.ordL_swap];omega
 unfold insR;rw[hk];refine List.pairwise_append.2 ⟨hs.sublist (List.take_sublist _ _),List.pairwise_cons.2 ⟨a8,hs.sublist (List.drop_sublist _ _)⟩,fun a ha b hb=>?_⟩;rcases List.mem_cons.1 hb with h|h
 ·rw[h];exact aE a ha
 ·exact NP.ordL_lt (aE a ha) (Int.le_of_lt (a8 b h))
theorem fold_all:∀(l S:List Nd),Sorted S->l.Pairwise (fun a b=>a.path≠b.path)->(∀ a∈S,∀ b∈l,a.path≠b.path)->Sorted (l.foldl insR S)/\∀ e,e∈l.foldl insR S↔e∈S\/e∈l
 | [],S,hs,_,_=>⟨hs,fun e=>by simp⟩
 | x::l,S,hs,hl,hb=>by
  obtain⟨h1,h2⟩:=List.pairwise_cons.1 hl;have hx:=insR_sorted hs (x:=x) (fun y hy=>hb y hy x (mem_cons_self ..))
  obtain⟨h3,h4⟩:=fold_all l (insR S x) hx h2 (fun a ha b ap=>by
   rcases insR_iff.1 ha with h|h
   ·rw[h];exact h1 b ap
   ·exact hb a h b (mem_cons_of_mem _ ap))
  refine⟨h3,fun e=>(h4 e).trans ?_⟩;rw[insR_iff,mem_cons];constructor
  ·rintro ((h|h)|h)
   ·exact .inr (.inl h)
   ·exact .inl h
   ·exact .inr (.inr h)
  ·rintro (h|h|h)
   ·exact .inl (.inr h)
   ·exact .inl (.inl h)
   ·exact .inr h
theorem sortK_all{l:List Nd}(hl:l.Pairwise (fun a b=>a.path≠b.path)):Sorted (sortK l l.length)/\∀ e,e∈sortK l l.length↔e∈l:=by
 unfold sortK;rw[List.take_length];obtain⟨h1,h2⟩:=fold_all l [] List.Pairwise.nil hl (fun a ha=>by cases ha);exact⟨h1,fun e=>(h2 e).trans (by simp)⟩
theorem sorted_apart{l:List Nd}(hs:Sorted l):l.Pairwise (fun a b=>a.path≠b.path) :=
 List.Pairwise.imp (R:=lt) (fun {a b} h e=>by
  have h1:NP.ordL a.path b.path<0:=h;have h2:=(NP.ordL_zero a.path b.path).2 e
  omega) hs
theorem sortK_self{l:List Nd}(hs:Sorted l):sortK l l.length=l :=
 sorted_ext (sortK_all (sorted_apart hs)).1 hs (sortK_all (sorted_apart hs)).2
theorem sortK_more{l:List Nd}{e:Nd}(hs:Sorted l)(aa:∀ y∈l,y.path≠e.path):sortK (l++[e]) (l.length+1)=insE l e:=by
 have hp:(l++[e]).Pairwise (fun a b=>a.path≠b.path):=List.pairwise_append.2 ⟨sorted_apart hs,List.pairwise_singleton _ _,fun a ha b hb=>by rw[List.mem_singleton.1 hb];exact aa a ha⟩;have h:=sortK_all hp;rw[length_append,List.length_singleton]at h;refine sorted_ext h.1 (sorted_ins hs aa) fun n=>?_;rw[h.2,mem_ins,mem_append,mem_singleton,or_comm]
theorem delE_none{ns:List Nd}{p:List UInt8}(h:∀ y∈ns,y.path≠p):delE ns p=ns :=
 List.filter_eq_self.2 fun y hy=>by simpa using h y hy
theorem chgR_more{D:Dk}{e:Nd}(hs:Sorted D.names)(hk:e.kind≠0)(aa:∀ y∈D.names,y.path≠e.path):chgR D (sortK (D.names++[e]) (D.names.length+1))=changeD D [e]:=by
 have h:withE D.names [e]=insE D.names e:=by
  show putE D.names e=_;unfold putE;rw[if_neg hk,delE_none aa]
 unfold chgR changeD;rw[sortK_more hs aa,h]
theorem chgR_less{D:Dk}{p:List UInt8}(hs:Sorted D.names):chgR D (sortK (delE D.names p) (delE D.names p).length)=changeD D [en p 0]:=by
 have h:withE D.names [en p 0]=delE D.names p:=by
  show putE D.names (en p 0)=_;unfold putE;rw[if_pos (show(en p 0).kind=0 from rfl)];rfl
 unfold chgR changeD;have h2:sortK (delE D.names p) (delE D.names p).length=delE D.names p:=sortK_self (hs.sublist List.filter_sublist);rw[h2,h]
theorem withR_change{D:Dk}{p:List UInt8}{i:Ino}(hs:Sorted D.names)(aa:∀ y∈D.names,y.path≠p):withR D p i=changeD (inosR D (D.inos++[i])) [en p ((D.inos.length+1:Nat):Int)]:=by
 have h:=chgR_more (D:=inosR D (D.inos++[i])) (e:=en p ((D.inos.length+1:Nat):Int)) hs (by show((D.inos.length+1:Nat):Int)≠0;omega) aa;exact h
end RK
end
section
open Go.RowKit Go.Lib
namespace RK
open OM TP TM DP DM FP DG NP
def okI(i:Ino):Prop:=rightB ⟨[],i.kind,i.data,i.mode⟩=true/\(i.dirty=true->i.kind=1)
theorem okI_kind{i:Ino}(h:okI i):i.kind=1\/i.kind=2\/i.kind=3:=by
 have h1:=h.1;unfold rightB at h1;simp only at h1;by_cases a:i.kind=1
 ·exact .inl a
 ·by_cases b:i.kind=2
  ·exact .inr (.inl b)
  ·by_cases c:i.kind=3
   ·exact .inr (.inr c)
   ·rw[if_neg a,if_neg b,if_neg c]at h1;cases h1
theorem okI_data{i:Ino}(h:okI i):i.data.length<=65536:=right_data (n:=⟨[],i.kind,i.data,i.mode⟩) h.1
theorem right_any{n:Nd}{i:Ino}(h:rightB n=true)(h1:i.kind=n.kind)(h2:i.data=n.data)(h3:i.mode=n.mode):rightB ⟨[],i.kind,i.data,i.mode⟩=true:=by
 rw[h1,h2,h3];exact h
structure G(I:List Ino)(l:List Nd):Prop where
 ino:∀ e∈l,∃ k:Nat,e=en e.path k/\1<=k/\k<=I.length
 sorted:Sorted l
 len:l.length<=1000
 path:∀ e∈l,pathL e.path=true
 up:∀ e∈l,upL e.path=[]\/∃ d∈l,d.path=upL e.path/\(inoOf I d.kind).kind=2
theorem G.row{I:List Ino}{l:List Nd}(h:G I l):Row I.length l:=⟨h.sorted,h.path,h.len,h.ino⟩
theorem G.nil(I:List Ino):G I []:=⟨fun _ h=>(by cases h),List.Pairwise.nil,Nat.zero_le _,fun _ h=>(by cases h),fun _ h=>(by cases h)⟩
theorem ino_is{I:List Ino}{k:Nat}(h1:1<=k)(h2:k<=I.length):∃ i,I[k-1]?=some i/\inoOf I (k:Int)=i:=by
 refine⟨I[k-1],getElem?_eq_getElem (by omega),?_⟩;unfold inoOf;rw[getD_eq_getElem?_getD,show(k:Int).toNat-1=k-1 by omega,getElem?_eq_getElem (by omega)];rfl
theorem G.okI{I:List Ino}{l:List Nd}(h:G I l)(hI:∀ i∈I,RK.okI i){e:Nd}(he:e∈l):RK.okI (inoOf I e.kind):=by
 obtain⟨k,h1,h2,h3⟩:=h.ino e he;obtain⟨i,hi,a6⟩:=ino_is h2 h3;rw[h1];show RK.okI (inoOf I (k:Int));rw[a6];exact hI i (List.mem_of_getElem? hi)
theorem G.tree{I:List Ino}{l:List Nd}(h:G I l)(hI:∀ i∈I,RK.okI i):Tree (l.map (nodeOf I)):=by
 refine⟨by rw[length_map];exact h.len,?_,?_,?_,?_⟩
 ·exact List.pairwise_map.2 (h.sorted.imp (fun {a b} hab=>hab))
 ·intro n hn;obtain⟨e,he,rfl⟩:=List.mem_map.1 hn;exact h.path e he
 ·intro n hn;obtain⟨e,he,rfl⟩:=List.mem_map.1 hn;exact(h.okI hI he).1
 ·intro n hn;obtain⟨e,he,rfl⟩:=List.mem_map.1 hn;rcases h.up e he with h1|⟨d,hd,h1,h2⟩
  ·exact .inl h1
  ·exact .inr ⟨nodeOf I d,List.mem_map.2 ⟨d,hd,rfl⟩,h1,h2⟩
theorem G.inos{I J:List Ino}{l:List Nd}(h:G I l)(hl:I.length<=J.length)(hk:∀ k:Nat,1<=k->k<=I.length->(inoOf J (k:Int)).kind=(inoOf I (k:Int)).kind):G J l:=by
 refine⟨fun e he=>?_,h.sorted,h.len,h.path,fun e he=>?_⟩
 ·obtain⟨k,h1,h2,h3⟩:=h.ino e he;exact⟨k,h1,h2,by omega⟩
 ·rcases h.up e he with h1|⟨d,hd,h1,h2⟩
  ·exact .inl h1
  ·obtain⟨k,h3,h4,h5⟩:=h.ino d hd;refine .inr ⟨d,hd,h1,?_⟩;rw[h3]at h2 ⊢;exact(hk k h4 h5).trans h2
theorem ino_app{I J:List Ino}{k:Nat}(h1:1<=k)(h2:k<=I.length):inoOf (I++J) (k:Int)=inoOf I (k:Int):=by
 unfold inoOf;rw[getD_eq_getElem?_getD,getD_eq_getElem?_getD,List.getElem?_append_left (by omega)]
theorem G.more{I:List Ino}{l:List Nd}(h:G I l)(J:List Ino):G (I++J) l:=h.inos (by simp) (fun k h1 h2=>by rw[ino_app h1 h2])
theorem ino_set{I:List Ino}{q:Nat}{i:Ino}(hq:i.kind=(inoOf I (q:Int)).kind){k:Nat}(h2:1<=k)(h3:k<=I.length)(h4:1<=q):(inoOf (I.set (q-1) i) (k:Int)).kind=(inoOf I (k:Int)).kind:=by
 by_cases hkq:k=q
 ·subst hkq;unfold inoOf at hq ⊢;rw[getD_eq_getElem?_getD,getD_eq_getElem?_getD]at *;rw[show((k:Int).toNat-1)=k-1 by omega]at *;rw[List.getElem?_set_self (by omega)];exact hq
 ·unfold inoOf;rw[getD_eq_getElem?_getD,getD_eq_getElem?_getD,List.getElem?_set_ne (by omega)]
theorem G.set{I:List Ino}{l:List Nd}(h:G I l){q:Nat}(h1:1<=q){i:Ino}(hq:i.kind=(inoOf I (q:Int)).kind):G (I.set (q-1) i) l :=
 h.inos (by simp) (fun _ h2 h3=>ino_set hq h2 h3 h1)
theorem clean_kind(torn:Int)(i:Ino):(DP.clean torn i).kind=i.kind:=by
 unfold DP.clean;split<;>rfl
theorem G.cleaned{I:List Ino}{l:List Nd}(h:G I l)(torn:Int):G (I.map (DP.clean torn)) l:=h.inos (by simp) (fun k h1 h2=>by
 obtain⟨i,hi,a6⟩:=ino_is h1 h2;rw[a6];obtain⟨j,hj,aI⟩:=ino_is (I:=I.map (DP.clean torn)) h1 (by simpa using h2);rw[aI];rw[List.getElem?_map,hi]at hj;injection hj with hj;rw[<- hj]
 exact clean_kind torn i)
theorem G.del{I:List Ino}{l:List Nd}(h:G I l){p:List UInt8}(hp:p≠[])(ai:∀ e∈l,upL e.path≠p):G I (delE l p):=by
 refine⟨fun e he=>h.ino e (mem_del.1 he).1,sorted_del h.sorted p,Nat.le_trans (List.length_filter_le _ _) h.len,fun e he=>h.path e (mem_del.1 he).1,fun e he=>?_⟩;rcases h.up e (mem_del.1 he).1 with h1|⟨d,hd,h1,h2⟩
 ·exact .inl h1
 ·exact .inr ⟨d,mem_del.2 ⟨hd,fun e2=>ai e (mem_del.1 he).1 (h1.symm.trans e2)⟩,h1,h2⟩
theorem G.put{I:List Ino}{l:List Nd}(h:G I l){p:List UInt8}{k:Nat}(h1:1<=k)(h2:k<=I.length)(hp:pathL p=true)(hu:upL p=[]\/∃ d∈l,d.path=upL p/\(inoOf I d.kind).kind=2)(hnd:∀ d∈l,d.path=p->(inoOf I d.kind).kind≠2)(hlen:(putE l (en p k)).length<=1000):G I (putE l (en p k)):=by
 have up:∀ q:List UInt8,(∃ d∈l,d.path=q/\(inoOf I d.kind).kind=2)->∃ d∈putE l (en p k),d.path=q/\(inoOf I d.kind).kind=2:=by
  rintro q ⟨d,hd,h3,h4⟩;exact⟨d,mem_put.2 (.inl ⟨hd,fun e=>hnd d hd e h4⟩),h3,h4⟩
 refine⟨fun e he=>?_,sorted_put h.sorted _,hlen,fun e he=>?_,fun e he=>?_⟩
 ·rcases mem_put.1 he with he|⟨_,rfl⟩
  ·exact h.ino e he.1
  ·exact⟨k,rfl,h1,h2⟩
 ·rcases mem_put.1 he with he|⟨_,rfl⟩
  ·exact h.path e he.1
  ·exact hp
 ·rcases mem_put.1 he with he|⟨_,rfl⟩
  ·exact(h.up e he.1).imp id (up _)
  ·exact hu.imp id (up _)
structure V(D:Dk):Prop where
 names:G D.inos D.names
 safe:G D.inos D.safe
 later:∀ l∈D.later,G D.inos l
 ino:∀ i∈D.inos,okI i
 edits:∀ e∈D.edits,e.path.length<=1048576/\TR.Small e.value/\e.value.length<=maxLen
theorem V.fit{D:Dk}(h:V D):Fit D:=⟨h.names.row,h.safe.row,fun l hl=>(h.later l hl).row,fun i hi=>okI_data (h.ino i hi)⟩
theorem V.tree{D:Dk}(h:V D):Tree (treeD D):=h.names.tree h.ino
theorem V.turn{D D':Dk}(h:V D)(h1:D'.names=D.names)(h2:D'.safe=D.safe)(h3:D'.later=D.later)(h4:D'.inos=D.inos)(h5:D'.edits=D.edits):V D':=by
 refine⟨?_,?_,?_,?_,?_⟩
 ·rw[h4,h1];exact h.names
 ·rw[h4,h2];exact h.safe
 ·rw[h4,h3];exact h.later
 ·rw[h4];exact h.ino
 ·rw[h5];exact h.edits
theorem V.more{D:Dk}(h:V D){J:List Ino}(hJ:∀ i∈J,okI i):V { D with inos:=D.inos++J } :=
 ⟨h.names.more J,h.safe.more J,fun l hl=>(h.later l hl).more J,fun i hi=>(List.mem_append.1 hi).elim (h.ino i) (hJ i),h.edits⟩
theorem V.change{D:Dk}(h:V D){c:List Nd}(hg:G D.inos (withE D.names c)):V (changeD D c) :=
 ⟨hg,h.safe,fun l hl=>(List.mem_append.1 hl).elim (h.later l) (fun h2=>by rw[List.mem_singleton.1 h2];exact hg),h.ino,h.edits⟩
theorem V.settle{D:Dk}(h:V D):V (settleD D):=⟨h.names,h.names,fun l hl=>(by cases hl),h.ino,h.edits⟩
theorem V.setI{D:Dk}(h:V D)(p:List UInt8)(f:Ino->Ino)(hk:∀ e∈D.names,e.path=p->(f (inoOf D.inos e.kind)).kind=(inoOf D.inos e.kind).kind/\okI (f (inoOf D.inos e.kind))):V (setI D p f):=by
 unfold DP.setI
 cases hf:findN D.names p with
 | none=>exact h
 | some e =>
  obtain⟨he,ag⟩:=find_mem hf;obtain⟨k,h1,h2,h3⟩:=h.names.ino e he;obtain⟨h4,h5⟩:=hk e he ag;have ay:e.kind=(k:Int):=by rw[h1];rfl
  rw[ay]at h4 h5;have hs:e.kind.toNat-1=k-1:=by rw[ay];omega
  simp only;rw[hs,ay];refine⟨h.names.set h2 h4,h.safe.set h2 h4,fun l hl=>(h.later l hl).set h2 h4,fun i hi=>?_,h.edits⟩;rcases List.mem_or_eq_of_mem_set hi with h6|h6
  ·exact h.ino i h6
  ·rw[h6];exact h5
theorem okI_clean{i:Ino}(h:okI i)(torn:Int):okI (DP.clean torn i):=by
 unfold DP.clean;split
 ·rename_i hd;have hk:=h.2 hd;have h1:=h.1;refine⟨?_,fun e=>by cases e⟩;unfold rightB at h1 ⊢;simp only[hk,if_pos]at h1 ⊢;simp only[Bool.and_eq_true,decide_eq_true_eq]at h1 ⊢;refine⟨⟨?_,h1.1.2⟩,h1.2⟩;rw[length_take];have:=h1.1.1;omega
 ·exact h
theorem V.kept{D:Dk}(h:V D)(keep:Int):G D.inos (keptD D keep):=by
 unfold keptD;split
 ·exact h.safe
 ·rename_i h0;have hk:keepN D keep-1<D.later.length:=by unfold keepN at h0 ⊢;omega
  rw[getD_eq_getElem?_getD,getElem?_eq_getElem hk];exact h.later _ (List.getElem_mem hk)
theorem V.crash{D:Dk}(h:V D)(keep torn:Int):V (crashD D keep torn) :=
 ⟨(h.kept keep).cleaned torn,(h.kept keep).cleaned torn,(fun l hl=>by cases hl),fun i hi=>by
  obtain⟨j,hj,rfl⟩:=List.mem_map.1 hi
  exact okI_clean (h.ino j hj) torn,h.edits⟩
theorem V.boot{D:Dk}(h:V D)(fs:List Fate){es:List Edit}(he:∀ e∈es,e.path.length<=1048576/\TR.Small e.value/\e.value.length<=maxLen):V (bootD D fs es):=⟨h.names,h.safe,h.later,h.ino,he⟩
theorem okI_fresh(D:Dk){n:Nd}(h:rightB n=true):okI (freshI D n):=⟨right_any (i:=freshI D n) h rfl rfl rfl,fun e=>by cases e⟩
theorem V.new{t:List Nd}(h:Tree t):V (newD t):=by
 have hi:∀ i∈(newD t).inos,okI i:=fun i hi=>by
  obtain⟨n,hn,rfl⟩:=List.mem_map.1 (show i∈t.map (freshI emptyD) from hi);exact okI_fresh _ (h.right n hn)
 have hr:=new_row h
 have hg:G (newD t).inos (newD t).names:=by
  refine⟨hr.ino,hr.sorted,hr.len,hr.path,fun e he=>?_⟩;obtain⟨j,x,hx,rfl⟩:=new_kind e he;rcases h.dir x (List.mem_of_getElem? hx)with h1|⟨d,hd,h1,h2⟩
  ·exact .inl h1
  ·obtain⟨i,hi,aC⟩:=List.getElem_of_mem hd;have aU:t[i]?=some d:=by rw[getElem?_eq_getElem hi,aC]
   refine .inr ⟨en d.path ((i+1:Nat):Int),?_,h1,?_⟩
   ·rw[new_names];refine List.mem_mapIdx.2 ⟨i,hi,?_⟩;rw[show((1+i:Nat):Int)=((i+1:Nat):Int) by omega,aC]
   ·show(inoOf (newD t).inos ((i+1:Nat):Int)).kind=2;rw[new_ino aU];exact h2
 exact⟨hg,hg,(fun l hl=>by cases hl),hi,fun e he=>by cases he⟩
theorem mem_new:∀(c l:List Nd) (x:Nd),c.Pairwise (fun a b=>a.path≠b.path)->(∀ e∈c,e.kind≠0)->(x∈withE l c↔x∈c\/(x∈l/\∀ e∈c,x.path≠e.path))
 | [],l,x,_,_=>by show x∈l↔_;simp
 | a::c,l,x,hp,hk=>by
  have aX:=List.Pairwise.of_cons hp;have aP:=fun b hb=>List.rel_of_pairwise_cons hp (a':=b) hb;have ih:=mem_new c (putE l a) x aX (fun e he=>hk e (mem_cons_of_mem _ he));show x∈withE (putE l a) c↔_;rw[ih,mem_put,mem_cons];have ha:=hk a (mem_cons_self ..);constructor
  ·rintro (h|⟨h|h,h2⟩)
   ·exact .inl (.inr h)
   ·refine .inr ⟨h.1,fun e he=>?_⟩;rcases List.mem_cons.1 he with rfl|he
    ·exact h.2
    ·exact h2 e he
   ·exact .inl (.inl h.2)
  ·rintro ((h|h)|⟨h,h2⟩)
   ·subst h;exact .inr ⟨.inr ⟨ha,rfl⟩,fun e he=>aP e he⟩
   ·exact .inl h
   ·exact .inr ⟨.inl ⟨h,h2 a (mem_cons_self ..)⟩,fun e he=>h2 e (mem_cons_of_mem _ he)⟩
theorem freshes_pair(D:Dk){F:List Nd}(h:Sorted F):(freshes D F).Pairwise (fun a b=>a.path≠b.path):=by
 unfold freshes;rw[List.pairwise_iff_getElem];intro i j hi hj a4;rw[getElem_mapIdx,getElem_mapIdx];have hl:(F.mapIdx fun i n=>en n.path (D.inos.length+1+i:Nat)).length=F.length:=by simp
 have h1:=List.pairwise_iff_getElem.1 h i j (by omega) (by omega) a4;intro e;have h2:ordL (F[i]'(by omega)).path (F[j]'(by omega)).path<0:=h1;have h3:(F[i]'(by omega)).path=(F[j]'(by omega)).path:=e;rw[h3]at h2;exact ord_irr _ h2
theorem mem_edit{D:Dk}{p:List UInt8}{t:List Nd}(ht:Sorted t)(x:Nd):x∈withE D.names (outE D.names p++freshes D (inE t p))↔x∈freshes D (inE t p)\/(x∈D.names/\withinL x.path p=false):=by
 rw[with_app,out_gone,mem_new (freshes D (inE t p)) _ _ (freshes_pair D (show Sorted (inE t p) from sorted_filter ht _)) (fun e he=>by
  have:=(freshes_kind D _ e he).1
  omega),List.mem_filter]
 constructor
 ·rintro (h|⟨⟨h1,h2⟩,_⟩)
  ·exact .inl h
  ·exact .inr ⟨h1,by simpa using h2⟩
 ·rintro (h|⟨h1,h2⟩)
  ·exact .inl h
  ·refine .inr ⟨⟨h1,by simpa using h2⟩,fun e he e2=>?_⟩;obtain⟨_,_,y,hy,ar,_⟩:=freshes_kind D _ e he;rw[e2,ar,(List.mem_filter.1 hy).2]at h2;cases h2
theorem fresh_at{D:Dk}{F:List Nd}{x:Nd}(hx:x∈F):∃ e∈freshes D F,e.path=x.path/\inoOf (D.inos++F.map (freshI D)) e.kind=freshI D x:=by
 obtain⟨i,hi,rfl⟩:=List.getElem_of_mem hx;refine⟨en F[i].path ((D.inos.length+1+i:Nat):Int),List.mem_mapIdx.2 ⟨i,hi,rfl⟩,rfl,?_⟩;show inoOf _ ((D.inos.length+1+i:Nat):Int)=_;unfold inoOf;rw[getD_eq_getElem?_getD,show((D.inos.length+1+i:Nat):Int).toNat-1=D.inos.length+i by omega,List.getElem?_append_right (by omega),Nat.add_sub_cancel_left,List.getElem?_map,getElem?_eq_getElem hi];rfl
theorem V.edit{D:Dk}(h:V D)(p:List UInt8)(v:List Nd):V (editD D p v):=by
 unfold editD;split
 ·rename_i h0;rcases put_cases (treeD D) p v with ⟨h1,h2⟩|⟨e,h2⟩
  ·rw[h2];have ht:=out_tree h1;obtain⟨t,a0⟩:∃ t,outL (treeD D) p v=t:=⟨_,rfl⟩;show V (editC D p (outL (treeD D) p v));have al:=mem_out (treeD D) p v;have aG:=edit_lens (ns:=D.names) (t:=treeD D) (v:=v) (p:=p) (D:=D) (I:=D.inos) h.names.len rfl h1.len;have aO:=h1.path;have a2:∀ m∈v,withinL (placeN p m).path p=true:=fun m hm=>place_within (path_ne aO) (h1.all m hm);rw[a0]at ht al aG ⊢;have aH:=aG ((outE D.names p).length+(freshes D (inE t p)).length);rw[List.take_of_length_le (by rw[length_append];omega)]at aH
   have hJ:∀ i∈(inE t p).map (freshI D),okI i:=fun i hi=>by
    obtain⟨n,hn,rfl⟩:=List.mem_map.1 hi;exact okI_fresh _ (ht.right n (List.mem_filter.1 hn).1)
   unfold editC;refine V.change (D:={ D with inos:=D.inos++(inE t p).map (freshI D) }) (h.more hJ) ?_;show G (D.inos++(inE t p).map (freshI D)) (withE D.names (outE D.names p++freshes D (inE t p)));have hm:=mem_edit (D:=D) (p:=p) ht.sorted;refine⟨fun e he=>?_,sorted_with h.names.sorted _,aH,fun e he=>?_,fun e he=>?_⟩
   ·rcases (hm e).1 he with he|he
    ·obtain⟨h3,h4,_,_,_,k,h5⟩:=freshes_kind D _ e he;rw[freshAll_len]at h4;rw[h5]at h3 h4;refine⟨k,h5,?_,?_⟩
     ·have:(1:Int)<=(k:Int):=h3;omega
     ·have:(k:Int)<=((D.inos.length+(inE t p).length:Nat):Int):=h4;rw[length_append,length_map];omega
    ·obtain⟨k,h3,h4,h5⟩:=h.names.ino e he.1;exact⟨k,h3,h4,by rw[length_append];omega⟩
   ·rcases (hm e).1 he with he|he
    ·obtain⟨_,_,y,hy,ar,_⟩:=freshes_kind D _ e he;rw[ar];exact ht.path y (List.mem_filter.1 hy).1
    ·exact h.names.path e he.1
   ·-- the directory above
    have ao:∀ q:List UInt8,(∃ d∈t,d.path=q/\d.kind=2)->∃ d∈withE D.names (outE D.names p++freshes D (inE t p)),d.path=q/\(inoOf (D.inos++(inE t p).map (freshI D)) d.kind).kind=2:=by
     rintro q ⟨d,hd,h3,h4⟩;by_cases hw:withinL d.path p=true
     ·obtain⟨e2,ad,h5,h6⟩:=fresh_at (D:=D) (F:=inE t p) (x:=d) (List.mem_filter.2 ⟨hd,hw⟩);exact⟨e2,(hm e2).2 (.inl ad),h5.trans h3,by rw[h6];exact h4⟩
     ·have am:withinL d.path p=false:=by simpa using hw
      rcases (al d).1 hd with ⟨h5,_⟩|⟨m,aQ,rfl⟩
      ·obtain⟨e2,ad,rfl⟩:=List.mem_map.1 h5;obtain⟨k,h6,h7,h8⟩:=h.names.ino e2 ad;refine⟨e2,(hm e2).2 (.inr ⟨ad,am⟩),h3,?_⟩;rw[h6];show(inoOf _ (k:Int)).kind=2;rw[ino_app h7 h8];have h9:(inoOf D.inos e2.kind).kind=2:=h4;rw[h6]at h9;exact h9
      ·rw[a2 m aQ]at am;cases am
    have au:∀ y∈t,upL y.path=[]\/∃ d∈withE D.names (outE D.names p++freshes D (inE t p)),d.path=upL y.path/\(inoOf (D.inos++(inE t p).map (freshI D)) d.kind).kind=2:=fun y hy=>(ht.dir y hy).imp id (ao _);rcases (hm e).1 he with he|he
    ·obtain⟨_,_,y,hy,ar,_⟩:=freshes_kind D _ e he;rw[ar];exact au y (List.mem_filter.1 hy).1
    ·exact au (nodeOf D.inos e) ((al _).2 (.inl ⟨List.mem_map.2 ⟨e,he.1,rfl⟩,he.2⟩))
  ·rw[h2]at h0;simp at h0
 ·exact h
theorem V.editsD:∀(es:List Edit) {D:Dk},V D->∀ n:Nat,V (DP.editsD D n es)
 | [],D,h,n=>h
 | e::es,D,h,n=>by
  show V (DP.editsD (if e.at_=(n:Int)then editD D e.path e.value else D) n es);refine V.editsD es ?_ n;split
  ·exact h.edit _ _
  ·exact h
theorem V.begun{D:Dk}(h:V D)(c:Did):V (begunD D c):=by
 have h1:V { D with clock:=D.clock+1 }:=h.turn rfl rfl rfl rfl rfl;exact(V.editsD D.edits h1 D.trace.length).turn rfl rfl rfl rfl rfl
theorem V.step{D:Dk}(h:V D)(c:Did):V (stepD D c).1:=by
 unfold stepD;split
 ·exact h
 ·split
  ·exact(h.begun c).crash _ _
  ·split
   ·exact h.begun c
   ·exact h.begun c
theorem V.after{D:Dk}(h:V D)(c:Did){f:Dk->Dk×Int}(hf:∀ E,V E->V (f E).1):V (DP.after (stepD D c) f).1:=by
 unfold DP.after;split
 ·exact hf _ (h.step c)
 ·exact h.step c
theorem V.refuse{e:Int}{E E':Dk}(h:V E)(h':e=0->V E'):V (DP.refuse e E E').1:=by
 unfold DP.refuse;split
 ·rename_i h0;exact h' h0
 ·exact h
end RK
end
section
open Go.RowKit Go.Lib
namespace RK
open OM TP TM DP DM FP DG NP
theorem V.kind{D:Dk}(h:V D){p:List UInt8}(hp:p≠[]):(kindD D p=0/\∀ e∈D.names,e.path≠p)\/∃ e∈D.names,e.path=p/\findN D.names p=some e/\inoN D.names p=e.kind/\kindD D p=(inoOf D.inos e.kind).kind/\okI (inoOf D.inos e.kind):=by
 rcases kind_ino (I:=D.inos) hp h.names.row with ⟨h1,h2⟩|⟨e,he,ag,hf,h1,h3,h2⟩
 ·refine .inl ⟨h2,fun e he e2=>?_⟩;have:=find_of h.names.sorted he;rw[e2]at this;unfold inoN at h1;rw[this]at h1;obtain⟨k,h3,h4,_⟩:=h.names.ino e he;rw[h3]at h1;have:(k:Int)=0:=h1;omega
 ·exact .inr ⟨e,he,ag,hf,h1,h2,h.names.okI h.ino he⟩
theorem V.up{D:Dk}(h:V D){p:List UInt8}(hp:pathL p=true)(hu:upB D p=true):upL p=[]\/∃ d∈D.names,d.path=upL p/\(inoOf D.inos d.kind).kind=2:=by
 unfold upB parentL at hu;rw[if_pos hp]at hu;have az:=of_decide_eq_true hu;by_cases h0:upL p=[]
 ·exact .inl h0
 ·rcases h.kind h0 with ⟨h1,_⟩|⟨e,he,ag,_,_,h2,_⟩
  ·unfold kindD at h1;rw[h1]at az;cases az
  ·refine .inr ⟨e,he,ag,?_⟩;rw[<- h2];exact az
theorem stand_right{n:Nd}(h:standB n=true):rightB n=true:=by
 have hv:=(val_iff _).1 h;exact hv.right { n with path:=[] } (List.mem_singleton.2 rfl)
theorem V.laid_all{D:Dk}(h:V D){n:Nd}(hp:pathL n.path=true)(hr:rightB n=true)(hu:upB D n.path=true)(h0:kindD D n.path=0)(hl:D.names.length<1000):V (laidD D n):=by
 have h1:V (freshD D n):=h.more (J:=[freshI D n]) (fun i hi=>by rw[List.mem_singleton.1 hi];exact okI_fresh D hr)
 have ai:∀ e∈D.names,e.path≠n.path:=by
  rcases h.kind (path_ne hp)with ⟨_,h2⟩|⟨e,_,_,_,_,h2,h3⟩
  ·exact h2
  ·rw[h0]at h2;rcases okI_kind h3 with h4|h4|h4<;>omega
 unfold laidD;refine h1.change ?_;show G (D.inos++[freshI D n]) (putE D.names (en n.path (D.inos.length+1:Nat)));refine(h.names.more [freshI D n]).put (by omega) (by simp) hp ?_ (fun d hd e=>absurd e (ai d hd)) (Nat.le_trans (put_len _ _) (by omega));rcases h.up hp hu with h2|⟨d,hd,h3,h4⟩
 ·exact .inl h2
 ·obtain⟨k,h5,h6,h7⟩:=h.names.ino d hd;refine .inr ⟨d,hd,h3,?_⟩;rw[h5]at h4 ⊢;show(inoOf _ (k:Int)).kind=2;rw[ino_app h6 h7];exact h4
theorem room_len{D:Dk}{p:List UInt8}(h:roomB D p=true)(h0:kindD D p=0):D.names.length<1000:=by
 unfold roomB at h;simp only[Bool.and_eq_true,Bool.not_eq_true',decide_eq_true_eq]at h;have h2:=h.2;rw[h0]at h2;by_cases hl:1000<=D.names.length
 ·simp[hl]at h2
 ·omega
theorem V.laidE{D:Dk}(h:V D){n:Nd}(he:layE D n=0):V (laidD D n):=by
 unfold layE at he;obtain⟨e1,he⟩:=first_cons he;obtain⟨e2,he⟩:=first_cons he;obtain⟨e3,he⟩:=first_cons he;obtain⟨e4,he⟩:=first_cons he;obtain⟨e5,he⟩:=first_cons he;have h1:=when_zero e1 (by decide);have h2:=when_zero e2 (by decide);have h3:=when_zero e3 (by decide);have h4:=when_zero e4 (by decide);have h5:=when_zero e5 (by decide);simp only[Bool.not_eq_false',decide_eq_true_eq]at h1 h2 h3 h4 h5;exact h.laid_all h1 (stand_right h2) h3 h4 (room_len h5 h4)
theorem V.wrote{D:Dk}(h:V D){p dt:List UInt8}{md:Int}(he:writeE D p dt md=0):V (wroteD D p dt md):=by
 unfold writeE at he;obtain⟨e1,he⟩:=first_cons he;obtain⟨e2,he⟩:=first_cons he;obtain⟨e3,he⟩:=first_cons he;obtain⟨e4,he⟩:=first_cons he;obtain⟨e5,he⟩:=first_cons he;have h1:=when_zero e1 (by decide);have h2:=when_zero e2 (by decide);have h3:=when_zero e3 (by decide);have h4:=when_zero e4 (by decide);have h5:=when_zero e5 (by decide);simp only[Bool.not_eq_false',Bool.or_eq_false_iff,decide_eq_false_iff_not]at h1 h2 h3 h4 h5;have hr:=stand_right h2;have hw:∀(E:Dk) (i:Ino),i.kind=1->(wroteI E dt md i).kind=i.kind/\okI (wroteI E dt md i):=fun E i hi=>⟨rfl,right_any (i:=wroteI E dt md i) hr hi rfl rfl,fun _=>hi⟩;unfold wroteD;by_cases h0:kindD D p=0
 ·rw[if_pos h0];have hl:=h.laid_all (n:=⟨p,1,dt,md⟩) h1 hr h3 h0 (room_len h5 h0);refine V.setI hl p _ fun e he ag=>hw _ _ ?_
  have ai:∀ e∈D.names,e.path≠p:=by
   rcases h.kind (path_ne h1)with ⟨_,h6⟩|⟨e,_,_,_,_,h6,h7⟩
   ·exact h6
   ·rw[h0]at h6;rcases okI_kind h7 with h8|h8|h8<;>omega
  have ad:e∈putE D.names (en p (D.inos.length+1:Nat)):=he;rcases mem_put.1 ad with h6|⟨_,rfl⟩
  ·exact absurd ag (ai e h6.1)
  ·show(inoOf (D.inos++[freshI D ⟨p,1,dt,md⟩]) ((D.inos.length+1:Nat):Int)).kind=1;unfold inoOf;rw[getD_eq_getElem?_getD,show(((D.inos.length+1:Nat):Int).toNat-1)=D.inos.length by omega,List.getElem?_append_right (Nat.le_refl _),Nat.sub_self];rfl
 ·rw[if_neg h0];refine h.setI p _ fun e he ag=>hw _ _ ?_;rcases h.kind (path_ne h1)with ⟨h6,_⟩|⟨e2,ad,hep2,_,_,h7,h8⟩
  ·exact absurd h6 h0
  ·have:e=e2:=sorted_one h.names.sorted he ad (ag.trans hep2.symm);subst this;rw[h7]at h4;rcases okI_kind h8 with h9|h9|h9
   ·exact h9
   ·exact absurd h9 h4.1
   ·exact absurd h9 h4.2
theorem two_in{l:List Nd}{a b:Nd}(ha:a∈l)(hb:b∈l)(h:a≠b):1<l.length:=by
 match l,ha,hb with
 | [x],ha,hb =>
  rw[mem_singleton]at ha hb;exact absurd (ha.trans hb.symm) h
 | x::y::l,_,_=>simp
theorem up_in{n:List UInt8}(hn:pathL n=true){p:List UInt8}(hp:p≠[])(h:upL n=p):withinL n p=true/\n≠p:=by
 subst h;refine⟨(up_path hn hp).2,fun e=>?_⟩;have:=up_short (path_ne hn);rw[<- e]at this;omega
theorem V.alone{D:Dk}(h:V D){p:List UInt8}(hp:pathL p=true)(h0:kindD D p≠0)(h1:¬ 1<(inE D.names p).length):∀ e∈D.names,upL e.path≠p:=fun e he hu=>by
 rcases h.kind (path_ne hp)with ⟨h2,_⟩|⟨d,hd,hdp,_⟩
 ·exact h0 h2
 ·obtain⟨h3,h4⟩:=up_in (h.names.path e he) (path_ne hp) hu;exact h1 (two_in (List.mem_filter.2 ⟨he,h3⟩) (List.mem_filter.2 ⟨hd,by rw[hdp];exact within_self hp⟩) (fun e2=>h4 (by rw[e2];exact hdp)))
theorem V.child{D:Dk}(h:V D){p:List UInt8}(hp:pathL p=true)(h1:1<(inE D.names p).length):∃ e∈D.names,upL e.path=p:=by
 have aW:∃ e∈D.names,withinL e.path p=true/\e.path≠p:=by
  match hI:inE D.names p,h1 with
  | a::b::r,_ =>
   have ha:a∈inE D.names p:=by rw[hI];exact mem_cons_self ..
   have hb:b∈inE D.names p:=by rw[hI];exact mem_cons_of_mem _ (mem_cons_self ..)
   obtain⟨a7,ax⟩:=List.mem_filter.1 ha;obtain⟨a3,ap⟩:=List.mem_filter.1 hb;by_cases hap:a.path=p
   ·refine⟨b,a3,ap,fun e=>?_⟩;have hs:Sorted (inE D.names p):=sorted_filter h.names.sorted _;rw[hI]at hs;have:=List.rel_of_pairwise_cons hs (a':=b) (mem_cons_self ..);have h2:ordL a.path b.path<0:=this;rw[hap,e]at h2;exact ord_irr _ h2
   ·exact⟨a,a7,ax,hap⟩
 have go:∀(k:Nat) (e:Nd),e.path.length<=k->e∈D.names->withinL e.path p=true->e.path≠p->∃ e∈D.names,upL e.path=p:=by
  intro k
  induction k with
  | zero =>
   intro e hk he _ _;exact absurd (List.length_eq_zero_iff.1 (by omega)) (path_ne (h.names.path e he))
  | succ k ih =>
   intro e hk he hw aa;by_cases hu:upL e.path=p
   ·exact⟨e,he,hu⟩
   ·obtain⟨h2,h3,_⟩:=within_up hw (path_ne hp) aa;rcases h.names.up e he with h4|⟨d,hd,h4,_⟩
    ·exact absurd h4 h2
    ·have:=up_short (path_ne (h.names.path e he));refine ih d (by rw[h4];omega) hd (by rw[h4];exact h3) (by rw[h4];exact hu)
 obtain⟨e,he,hw,aa⟩:=aW;exact go _ e (Nat.le_refl _) he hw aa
theorem V.removed{D:Dk}(h:V D){p:List UInt8}(he:removeE D p=0):V (changeD D [en p 0]):=by
 unfold removeE at he;obtain⟨e1,he⟩:=first_cons he;obtain⟨e2,he⟩:=first_cons he;obtain⟨e3,he⟩:=first_cons he;have h1:=when_zero e1 (by decide);have h2:=when_zero e2 (by decide);have h3:=when_zero e3 (by decide);simp only[Bool.not_eq_false',decide_eq_false_iff_not]at h1 h2 h3;refine h.change ?_;show G D.inos (putE D.names (en p 0));unfold putE;rw[if_pos (show(en p 0).kind=0 from rfl)];exact h.names.del (path_ne h1) (h.alone h1 h2 h3)
theorem V.replaced{D:Dk}(h:V D){p q:List UInt8}(he:replaceE D p q=0):V (changeD D [en p 0,en q (inoN D.names p)]):=by
 unfold replaceE at he;obtain⟨e1,he⟩:=first_cons he;obtain⟨e2,he⟩:=first_cons he;obtain⟨e3,he⟩:=first_cons he;obtain⟨e4,he⟩:=first_cons he;obtain⟨e5,he⟩:=first_cons he;have h1:=when_zero e1 (by decide);have h2:=when_zero e2 (by decide);have h3:=when_zero e3 (by decide);have h4:=when_zero e4 (by decide);have h5:=when_zero e5 (by decide);simp only[Bool.not_eq_false',Bool.or_eq_false_iff,decide_eq_false_iff_not]at h1 h2 h3 h4 h5;obtain⟨hp,hq⟩:=h1;refine h.change ?_;rcases h.kind (path_ne hp)with ⟨h6,_⟩|⟨e,he,ag,hf,h6,h7,h8⟩
 ·exact absurd h6 h3
 obtain⟨k,h9,aK,aL⟩:=h.names.ino e he;have hk:inoN D.names p=(k:Int):=by rw[h6,h9];rfl
 show G D.inos (putE (putE D.names (en p 0)) (en q (inoN D.names p)));have hd:putE D.names (en p 0)=delE D.names p:=by unfold putE;rw[if_pos (show(en p 0).kind=0 from rfl)];rfl
 rw[hd,hk]
 have a9:∀ d∈D.names,d.path=p->(inoOf D.inos d.kind).kind≠2:=fun d aj hdp ac=>by
  have:d=e:=sorted_one h.names.sorted aj he (hdp.trans ag.symm);subst this;rw[ac]at h7;exact h4.1 h7
 refine(h.names.del (path_ne hp) (fun x hx hu=>?_)).put aK aL hq ?_ (fun d aj hdq ac=>?_) ?_
 ·rcases h.names.up x hx with ac|⟨d,aj,ac,ah⟩
  ·rw[hu]at ac;exact path_ne hp ac
  ·exact a9 d aj (ac.trans hu) ah
 ·rcases h.up hq h5 with ac|⟨d,aj,ac,ah⟩
  ·exact .inl ac
  ·exact .inr ⟨d,mem_del.2 ⟨aj,fun e2=>a9 d aj e2 ah⟩,ac,ah⟩
 ·have aD:=(mem_del.1 aj).1;rcases h.kind (path_ne hq)with ⟨_,ah⟩|⟨x,hx,hxq,_,_,ah,_⟩
  ·exact ah d aD hdq
  ·have:d=x:=sorted_one h.names.sorted aD hx (hdq.trans hxq.symm);subst this;rw[ac]at ah;exact h4.2 ah
 ·have ac:=put_len (delE D.names p) (en q (k:Int));have ah:=del_less hf;have:=h.names.len;omega
theorem V.write{D:Dk}(h:V D)(p dt:List UInt8)(md:Int):V (writeD D p dt md).1:=h.after _ fun _ hE=>hE.refuse fun h0=>hE.wrote h0
theorem V.mkdir{D:Dk}(h:V D)(p:List UInt8):V (mkdirD D p).1:=h.after _ fun _ hE=>hE.refuse fun h0=>hE.laidE h0
theorem V.link{D:Dk}(h:V D)(p q:List UInt8):V (linkD D p q).1:=h.after _ fun _ hE=>hE.refuse fun h0=>hE.laidE h0
theorem V.remove{D:Dk}(h:V D)(p:List UInt8):V (removeD D p).1:=h.after _ fun _ hE=>hE.refuse fun h0=>hE.removed h0
theorem V.replace{D:Dk}(h:V D)(p q:List UInt8):V (replaceD D p q).1:=h.after _ fun _ hE=>hE.refuse fun h0=>hE.replaced h0
theorem V.sync{D:Dk}(h:V D)(p:List UInt8):V (syncD D p).1:=h.after _ fun _ hE=>hE.refuse fun _=>hE.setI p syncI fun e he _=>⟨rfl,(hE.names.okI hE.ino he).1,fun e=>by cases e⟩
theorem V.flush{D:Dk}(h:V D):V (flushD D).1:=h.after _ fun _ hE=>hE.settle
theorem V.get{D:Dk}(h:V D)(p:List UInt8):V (getD D p).1:=by
 have h1:(getD D p).1=(DP.after (stepD D ⟨cGet,p,[]⟩) fun E=>DP.refuse (missE E p) E E).1:=by
  unfold getD;simp only;split<;>rfl
 rw[h1];exact h.after _ fun _ hE=>hE.refuse fun _=>hE
theorem V.namesD{D:Dk}(h:V D)(p:List UInt8):V (namesD D p).1:=by
 have h1:(DP.namesD D p).1=(DP.after (stepD D ⟨cNames,p,[]⟩) fun E=>DP.refuse (firstE [missE E p,whenE (!decide (kindD E p=2)) 73]) E E).1:=by
  unfold DP.namesD;simp only;split<;>rfl
 rw[h1];exact h.after _ fun _ hE=>hE.refuse fun _=>hE
def edE(D:Dk)(t:List Nd)(p:List UInt8)(k:Nat)(x:Nd):Nd:=en x.path (if withinL x.path p=true then((D.inos.length+1+(inE (t.take k) p).length:Nat):Int)else inoN D.names x.path)
def edK(D:Dk)(t:List Nd)(p:List UInt8)(k:Nat):List Nd:=(t.take k).mapIdx fun i x=>edE D t p i x
theorem edK_succ{D:Dk}{t:List Nd}{p:List UInt8}{k:Nat}{x:Nd}(hx:t[k]?=some x):edK D t p (k+1)=edK D t p k++[edE D t p k x]:=by
 have hk:=(List.getElem?_eq_some_iff.1 hx).1;unfold edK;rw[List.take_add_one,hx,Option.toList_some,List.mapIdx_append];congr 1;rw[List.mapIdx_cons,List.mapIdx_nil,length_take,Nat.zero_add,Nat.min_eq_left (show k<=t.length by omega)]
theorem edK_len{D:Dk}{t:List Nd}{p:List UInt8}{k:Nat}(hk:k<=t.length):(edK D t p k).length=k:=by
 unfold edK;rw[List.length_mapIdx,length_take];omega
theorem edK_sorted{D:Dk}{t:List Nd}{p:List UInt8}(ht:Sorted t)(k:Nat):Sorted (edK D t p k):=by
 unfold Sorted edK;rw[List.pairwise_iff_getElem];intro i j hi hj a4;rw[getElem_mapIdx,getElem_mapIdx];have hl:((t.take k).mapIdx fun i x=>edE D t p i x).length=(t.take k).length:=by simp
 have hs:Sorted (t.take k):=ht.sublist (List.take_sublist k t);exact List.pairwise_iff_getElem.1 hs i j (by omega) (by omega) a4
theorem edK_mem{D:Dk}{t:List Nd}{p:List UInt8}:∀(k:Nat),k<=t.length->∀ x,x∈edK D t p k↔x∈freshes D (inE (t.take k) p)\/∃ y∈t.take k,withinL y.path p=false/\x=en y.path (inoN D.names y.path)
 | 0,_,x=>by simp[edK,inE,freshes]
 | k+1,hk,x=>by
  obtain⟨y,hy⟩:∃ y,t[k]?=some y:=⟨t[k]'(by omega),getElem?_eq_getElem _⟩;have ih:=edK_mem (D:=D) (t:=t) (p:=p) k (by omega) x;have ht:t.take (k+1)=t.take k++[y]:=by rw[List.take_add_one,hy];rfl
  rw[edK_succ hy,mem_append,mem_singleton,ih,ht]
  cases hw:withinL y.path p with
  | true =>
   have h1:inE (t.take k++[y]) p=inE (t.take k) p++[y]:=by rw[<- ht];exact in_succ_yes hy hw
   have h2:edE D t p k y=freshE (freshAll D (inE (t.take k) p)) y:=by
    unfold edE freshE;rw[if_pos hw,freshAll_len];congr 2;omega
   rw[h1,freshes_snoc,mem_append,mem_singleton,h2];constructor
   ·rintro ((h|⟨z,hz,h3⟩)|h)
    ·exact .inl (.inl h)
    ·exact .inr ⟨z,List.mem_append_left _ hz,h3⟩
    ·exact .inl (.inr h)
   ·rintro ((h|h)|⟨z,hz,h3,h4⟩)
    ·exact .inl (.inl h)
    ·exact .inr h
    ·rcases List.mem_append.1 hz with hz|hz
     ·exact .inl (.inr ⟨z,hz,h3,h4⟩)
     ·rw[List.mem_singleton.1 hz,hw]at h3;cases h3
  | false =>
   have h1:inE (t.take k++[y]) p=inE (t.take k) p:=by rw[<- ht];exact in_succ_no hy hw
   have h2:edE D t p k y=en y.path (inoN D.names y.path):=by
    unfold edE;rw[if_neg (by rw[hw];exact Bool.false_ne_true)]
   rw[h1,h2];constructor
   ·rintro ((h|⟨z,hz,h3⟩)|h)
    ·exact .inl h
    ·exact .inr ⟨z,List.mem_append_left _ hz,h3⟩
    ·exact .inr ⟨y,List.mem_append_right _ (List.mem_singleton.2 rfl),hw,h⟩
   ·rintro (h|⟨z,hz,h3,h4⟩)
    ·exact .inl (.inl h)
    ·rcases List.mem_append.1 hz with hz|hz
     ·exact .inl (.inr ⟨z,hz,h3,h4⟩)
     ·rw[List.mem_singleton.1 hz]at h4;exact .inr h4
theorem G.entry{I:List Ino}{l:List Nd}(h:G I l){e:Nd}(he:e∈l):e=en e.path (inoN l e.path):=by
 obtain⟨k,h1,_,_⟩:=h.ino e he;have h2:=find_of h.sorted he;unfold inoN;rw[h2,h1];rfl
theorem edK_names{D:Dk}(h:V D){p:List UInt8}{v:List Nd}(h1:PutOk (treeD D) p v):sortK (edK D (outL (treeD D) p v) p (outL (treeD D) p v).length) (outL (treeD D) p v).length=withE D.names (outE D.names p++freshes D (inE (outL (treeD D) p v) p)):=by
 have ht:=(out_tree h1).sorted;have al:=mem_out (treeD D) p v;have a2:∀ m∈v,withinL (placeN p m).path p=true:=fun m hm=>place_within (path_ne h1.path) (h1.all m hm);obtain⟨t,a0⟩:∃ t,outL (treeD D) p v=t:=⟨_,rfl⟩;rw[a0]at ht al ⊢;have hl:=edK_len (D:=D) (t:=t) (p:=p) (Nat.le_refl t.length);have hs:=sortK_self (edK_sorted (D:=D) (p:=p) ht t.length);rw[hl]at hs;rw[hs];refine sorted_ext (edK_sorted ht _) (sorted_with h.names.sorted _) fun x=>?_;rw[edK_mem _ (Nat.le_refl _),mem_edit ht,List.take_length];constructor
 ·rintro (hx|⟨y,hy,hw,rfl⟩)
  ·exact .inl hx
  ·refine .inr ⟨?_,hw⟩;rcases (al y).1 hy with ⟨h5,_⟩|⟨m,hm,rfl⟩
   ·obtain⟨e,he,rfl⟩:=List.mem_map.1 h5;have:=h.names.entry he;show en e.path (inoN D.names e.path)∈_;rw[<- this];exact he
   ·rw[a2 m hm]at hw;cases hw
 ·rintro (hx|⟨hx,hw⟩)
  ·exact .inl hx
  ·exact .inr ⟨nodeOf D.inos x,(al _).2 (.inl ⟨List.mem_map.2 ⟨x,hx,rfl⟩,hw⟩),hw,h.names.entry hx⟩
end RK
end
section
open Go.RowKit Go.Lib
namespace RK
open OM TP TM DP DM FP DG NP
def movE(p q:List UInt8)(x:Nd):Nd:=if withinL x.path p=true then en (q++x.path.drop p.length) x.kind else x
def movL(D:Dk)(p q:List UInt8):List Nd:=D.names.map (movE p q)
theorem drop_place(p q r:List UInt8):q++(place p r).drop p.length=place q r:=by
 unfold place;split
 ·simp
 ·simp
structure MoveOk(D:Dk)(p q:List UInt8):Prop where
 pp:pathL p=true
 pq:pathL q=true
 out:withinL q p=false
 none:∀ x∈D.names,withinL x.path q=false
 up:upB D q=true
 all:∀ e∈D.names,withinL e.path p=true->pathL (q++e.path.drop p.length)=true
theorem V.moveOk{D:Dk}(h:V D){p q:List UInt8}(he:moveE D p q=0)(ha:((movedC D p q).any fun e=>!pathL e.path)=false):MoveOk D p q:=by
 unfold moveE at he;obtain⟨e1,he⟩:=first_cons he;obtain⟨e2,he⟩:=first_cons he;obtain⟨e3,he⟩:=first_cons he;obtain⟨e4,he⟩:=first_cons he;obtain⟨e5,he⟩:=first_cons he;have h1:=when_zero e1 (by decide);have h2:=when_zero e2 (by decide);have h3:=when_zero e3 (by decide);have h4:=when_zero e4 (by decide);have h5:=when_zero e5 (by decide);simp only[Bool.not_eq_false',Bool.or_eq_false_iff,decide_eq_false_iff_not,decide_eq_true_eq]at h1 h2 h3 h4 h5
 have ai:∀ e∈D.names,e.path≠q:=by
  rcases h.kind (path_ne h1.2)with ⟨_,h6⟩|⟨e,_,_,_,_,h6,h7⟩
  ·exact h6
  ·rw[h4]at h6;rcases okI_kind h7 with h8|h8|h8<;>omega
 refine⟨h1.1,h1.2,h2,fun x hx=>?_,h5,fun e hm hw=>?_⟩
 ·cases hw:withinL x.path q with
  | false=>rfl
  | true =>
   obtain⟨d,hd,h6,_⟩:=tree_above h.tree (path_ne h1.2) _ (nodeOf D.inos x) (Nat.le_refl _) (List.mem_map.2 ⟨x,hx,rfl⟩) hw (ai x hx);obtain⟨e,ad,rfl⟩:=List.mem_map.1 hd;exact absurd h6 (ai e ad)
 ·have h6:=List.any_eq_false.1 ha (en (q++e.path.drop p.length) e.kind) (List.mem_append_right _ (List.mem_map.2 ⟨e,List.mem_filter.2 ⟨hm,hw⟩,rfl⟩));have h7:pathL (en (q++e.path.drop p.length) e.kind).path=true:=by simpa using h6
  exact h7
def movM(D:Dk)(p q:List UInt8):List Nd:=(inE D.names p).map fun e=>en (q++e.path.drop p.length) e.kind
theorem MoveOk.within{D:Dk}{p q:List UInt8}(h:MoveOk D p q)(hv:V D){x:Nd}(hx:x∈movM D p q):withinL x.path q=true:=by
 obtain⟨e,he,rfl⟩:=List.mem_map.1 hx;obtain⟨aB,ad⟩:=List.mem_filter.1 he;obtain⟨r,hr⟩:=(TP.within_iff (hv.names.path e aB) (path_ne h.pp)).1 ad;show withinL (q++e.path.drop p.length) q=true;have h1:=h.all e aB ad;rw[hr,drop_place]at h1 ⊢;exact(TP.within_iff h1 (path_ne h.pq)).2 ⟨r,rfl⟩
theorem MoveOk.pair{D:Dk}{p q:List UInt8}(h:MoveOk D p q)(hv:V D):(movM D p q).Pairwise (fun a b=>a.path≠b.path):=by
 unfold movM;rw[List.pairwise_map];have hs:Sorted (inE D.names p):=sorted_filter hv.names.sorted _;refine List.Pairwise.imp_of_mem (fun {a b} ha hb hab e=>?_) hs;obtain⟨a7,ax⟩:=List.mem_filter.1 ha;obtain⟨a3,ap⟩:=List.mem_filter.1 hb;obtain⟨r,hr⟩:=(TP.within_iff (hv.names.path a a7) (path_ne h.pp)).1 ax;obtain⟨s,aq⟩:=(TP.within_iff (hv.names.path b a3) (path_ne h.pp)).1 ap;have e2:q++a.path.drop p.length=q++b.path.drop p.length:=e;rw[hr,aq,drop_place,drop_place]at e2;have e3:=place_inj e2;have ab:ordL a.path b.path<0:=hab;rw[hr,aq,e3]at ab;exact ord_irr _ ab
theorem MoveOk.mem{D:Dk}{p q:List UInt8}(h:MoveOk D p q)(hv:V D)(x:Nd):x∈withE D.names (movedC D p q)↔x∈movM D p q\/(x∈D.names/\withinL x.path p=false):=by
 show x∈withE D.names (outE D.names p++movM D p q)↔_
 rw[with_app,out_gone,mem_new _ _ _ (h.pair hv) (fun e he=>by
  obtain⟨f,hf,rfl⟩:=List.mem_map.1 he;obtain⟨k,h1,h2,_⟩:=hv.names.ino f (List.mem_filter.1 hf).1;rw[h1];show(k:Int)≠0
  omega),List.mem_filter]
 constructor
 ·rintro (h1|⟨⟨h1,h2⟩,_⟩)
  ·exact .inl h1
  ·exact .inr ⟨h1,by simpa using h2⟩
 ·rintro (h1|⟨h1,h2⟩)
  ·exact .inl h1
  ·refine .inr ⟨⟨h1,by simpa using h2⟩,fun e he e2=>?_⟩;have h3:=h.within hv he;rw[<- e2,h.none x h1]at h3;cases h3
theorem V.moved{D:Dk}(h:V D){p q:List UInt8}(ho:MoveOk D p q):V (changeD D (movedC D p q)):=by
 have hm:=ho.mem h;refine h.change ⟨fun e he=>?_,sorted_with h.names.sorted _,?_,fun e he=>?_,fun e he=>?_⟩
 ·rcases (hm e).1 he with he|he
  ·obtain⟨f,hf,rfl⟩:=List.mem_map.1 he;obtain⟨k,h1,h2,h3⟩:=h.names.ino f (List.mem_filter.1 hf).1;exact⟨k,by rw[h1];rfl,h2,h3⟩
  ·exact h.names.ino e he.1
 ·show(withE D.names (outE D.names p++movM D p q)).length<=1000;rw[with_app,out_gone];have h1:=with_len (D.names.filter fun e=>!withinL e.path p) (movM D p q);have h2:=filter_two D.names (fun _=>true) (fun e=>withinL e.path p);simp only[Bool.true_and]at h2;have h3:(movM D p q).length=(D.names.filter fun e=>withinL e.path p).length:=by unfold movM inE;rw[length_map]
  have:=h.names.len;omega
 ·rcases (hm e).1 he with he|he
  ·obtain⟨f,hf,rfl⟩:=List.mem_map.1 he;obtain⟨h1,h2⟩:=List.mem_filter.1 hf;exact ho.all f h1 h2
  ·exact h.names.path e he.1
 ·have keep:∀ d∈D.names,withinL d.path p=false->d∈withE D.names (movedC D p q):=fun d hd hw=>(hm d).2 (.inr ⟨hd,hw⟩);rcases (hm e).1 he with he|he
  ·obtain⟨f,hf,rfl⟩:=List.mem_map.1 he;obtain⟨h1,h2⟩:=List.mem_filter.1 hf;obtain⟨r,hr⟩:=(TP.within_iff (h.names.path f h1) (path_ne ho.pp)).1 h2;show upL (q++f.path.drop p.length)=[]\/∃ d∈withE D.names (movedC D p q),d.path=upL (q++f.path.drop p.length)/\(inoOf D.inos d.kind).kind=2;have aF:=ho.all f h1 h2;rw[hr,drop_place]at aF ⊢;by_cases h0:r=[]
   ·rw[h0,place_nil];rcases h.up ho.pq ho.up with h3|⟨d,hd,h3,h4⟩
    ·exact .inl h3
    ·by_cases h5:upL q=[]
     ·exact .inl h5
     ·refine .inr ⟨d,keep d hd ?_,h3,h4⟩
      cases hw:withinL d.path p with
      | false=>rfl
      | true =>
       rw[h3]at hw;have h6:=within_of_up ho.pq (path_ne ho.pp) h5 hw;rw[ho.out]at h6;cases h6
   ·rw[up_place h0 aF];have aw:=h.names.path f h1;rw[hr]at aw;rcases h.names.up f h1 with h3|⟨d,hd,h3,h4⟩
    ·rw[hr,up_place h0 aw]at h3;have h5:p=[]\/p≠[]:=Classical.em _;exfalso;unfold place at h3;split at h3
     ·exact path_ne ho.pp h3
     ·simp at h3
    ·rw[hr,up_place h0 aw]at h3;have aN:withinL d.path p=true:=(TP.within_iff (h.names.path d hd) (path_ne ho.pp)).2 ⟨_,h3⟩;refine .inr ⟨en (q++d.path.drop p.length) d.kind,(hm _).2 (.inl (List.mem_map.2 ⟨d,List.mem_filter.2 ⟨hd,aN⟩,rfl⟩)),?_,h4⟩;show q++d.path.drop p.length=_;rw[h3,drop_place]
  ·rcases h.names.up e he.1 with h3|⟨d,hd,h3,h4⟩
   ·exact .inl h3
   ·by_cases h5:upL e.path=[]
    ·exact .inl h5
    ·refine .inr ⟨d,keep d hd ?_,h3,h4⟩
     cases hw:withinL d.path p with
     | false=>rfl
     | true =>
      rw[h3]at hw;have h6:=within_of_up (h.names.path e he.1) (path_ne ho.pp) h5 hw;rw[he.2]at h6;cases h6
theorem V.move{D:Dk}(h:V D)(p q:List UInt8):V (moveD D p q).1:=by
 refine h.after _ fun E hE=>?_;by_cases h0:moveE E p q=0
 ·rw[if_pos h0];by_cases h1:((movedC E p q).any fun e=>!pathL e.path)=true
  ·rw[if_pos h1];exact hE
  ·rw[if_neg h1];exact hE.moved (hE.moveOk h0 (by simpa using h1))
 ·rw[if_neg h0];exact hE
theorem movL_names{D:Dk}(h:V D){p q:List UInt8}(ho:MoveOk D p q):sortK (movL D p q) D.names.length=withE D.names (movedC D p q):=by
 have hm:=ho.mem h;have hl:(movL D p q).length=D.names.length:=by unfold movL;rw[length_map]
 have a5:∀ x,x∈movL D p q↔x∈movM D p q\/(x∈D.names/\withinL x.path p=false):=by
  intro x;unfold movL movE;constructor
  ·intro hx;obtain⟨e,he,hx⟩:=List.mem_map.1 hx;subst hx
   cases hw:withinL e.path p with
   | true =>
    rw[if_pos rfl];exact .inl (List.mem_map.2 ⟨e,List.mem_filter.2 ⟨he,hw⟩,rfl⟩)
   | false =>
    rw[if_neg Bool.false_ne_true];exact .inr ⟨he,hw⟩
  ·rintro (hx|⟨hx,hw⟩)
   ·obtain⟨e,he,rfl⟩:=List.mem_map.1 hx;obtain⟨h1,h2⟩:=List.mem_filter.1 he;exact List.mem_map.2 ⟨e,h1,by rw[if_pos h2]⟩
   ·exact List.mem_map.2 ⟨x,hx,by rw[if_neg (by rw[hw];exact Bool.false_ne_true)]⟩
 have hp:(movL D p q).Pairwise (fun a b=>a.path≠b.path):=by
  unfold movL;rw[List.pairwise_map];refine List.Pairwise.imp_of_mem (fun {a b} ha hb hab=>?_) h.names.sorted;have ab:ordL a.path b.path<0:=hab;have one:∀ x∈D.names,withinL x.path p=true->withinL (en (q++x.path.drop p.length) x.kind).path q=true:=fun x hx hw=>ho.within h (List.mem_map.2 ⟨x,List.mem_filter.2 ⟨hx,hw⟩,rfl⟩);unfold movE
  cases hwa:withinL a.path p with
  | true =>
   cases hwb:withinL b.path p with
   | true =>
    rw[if_pos rfl,if_pos rfl];intro e;obtain⟨r,hr⟩:=(TP.within_iff (h.names.path a ha) (path_ne ho.pp)).1 hwa;obtain⟨s,aq⟩:=(TP.within_iff (h.names.path b hb) (path_ne ho.pp)).1 hwb;have e2:q++a.path.drop p.length=q++b.path.drop p.length:=e;rw[hr,aq,drop_place,drop_place]at e2;rw[hr,aq,place_inj e2]at ab;exact ord_irr _ ab
   | false =>
    rw[if_pos rfl,if_neg Bool.false_ne_true];intro e;have h3:=one a ha hwa;rw[e,ho.none b hb]at h3;cases h3
  | false =>
   cases hwb:withinL b.path p with
   | true =>
    rw[if_neg Bool.false_ne_true,if_pos rfl];intro e;have h3:=one b hb hwb;rw[<- e,ho.none a ha]at h3;cases h3
   | false =>
    rw[if_neg Bool.false_ne_true,if_neg Bool.false_ne_true];intro e;rw[e]at ab;exact ord_irr _ ab
 have hs:=sortK_all hp;rw[hl]at hs;exact sorted_ext hs.1 (sorted_with h.names.sorted _) fun x=>(hs.2 x).trans ((a5 x).trans (hm x).symm)
end RK
end
section
open Go.RowKit Go.Lib
namespace RK
open OM TP TM DP DM FP DG NP
theorem rest_nil{n:List UInt8}(h:pathL n=true):restL [] n=n:=by
 unfold restL;rw[show Lib.trimPrefix n []=n by unfold Lib.trimPrefix;simp[Lib.hasPrefix],trim_no (path_head h)]
theorem rest_self(p:List UInt8):restL p p=[]:=by
 unfold restL;have h:=trim_pre p [];rw[List.append_nil]at h;rw[h];rfl
theorem rest_place(p:List UInt8){q:List UInt8}(hq:q≠[]):restL p (place p q)=q:=by
 unfold restL;rw[place_ne p hq,trim_pre];exact trim_pre [47] q
theorem rest_names{p n:List UInt8}(hn:pathL n=true)(hp:p=[]\/pathL p=true) :
  (withinL n p&&(!decide (restL p n=[])&&!decide (47∈restL p n)))=decide (parentL n=p)/\(parentL n=p->restL p n=baseL n):=by
 have a1:parentL n=upL n:=by unfold parentL;rw[if_pos hn]
 have av:baseL n=lastL n:=by unfold baseL;rw[if_pos hn]
 rw[a1,av];by_cases hp0:p=[]
 ·subst hp0;rw[within_nil hn,rest_nil hn];have aa:=path_ne hn;rcases up_cases n with ⟨h0,h1,h2⟩|⟨u,t,e,h0,h1,h2⟩
  ·rw[h1,h2];simp[aa,h0]
  ·have hu:u≠[]:=path_ne (path_pre (e ▸ hn));rw[h1];refine⟨?_,fun h=>absurd h hu⟩;have:47∈n:=by rw[e];simp
   simp[this,hu]
 ·by_cases hw:withinL n p=true
  ·obtain⟨q,e⟩:=(TP.within_iff hn hp0).1 hw;rw[hw];by_cases hq:q=[]
   ·have e2:n=p:=by rw[e,hq,place_nil]
    rw[e2,rest_self];have hs:=up_short (path_ne (e2 ▸ hn));have aa:upL p≠p:=fun h=>by rw[h]at hs;omega
    refine⟨by simp[aa],fun h=>absurd h aa⟩
   ·have hr:restL p n=q:=by rw[e,rest_place p hq]
    have au:upL n=place p (upL q):=by rw[e];exact up_place hq (e ▸ hn)
    have aT:lastL n=lastL q:=by rw[e];exact last_place hq
    rw[hr,au,aT];rcases up_cases q with ⟨h0,h1,h2⟩|⟨u,t,e3,h0,h1,h2⟩
    ·rw[h1,h2,place_nil];simp[hq,h0]
    ·rw[h1]
     have hu:u≠[]:=by
      rw[e,place_ne p hq]at hn;exact path_ne (path_pre (e3 ▸ path_tail hn))
     have aY:47∈q:=by rw[e3];simp
     have aa:place p u≠p:=fun h=>by
      rw[place_ne p hu]at h;have:=congrArg List.length h;simp at this
     refine⟨by simp[aY,aa],fun h=>absurd h aa⟩
  ·have am:withinL n p=false:=by simpa using hw
   have aa:upL n≠p:=fun h=>by
    obtain⟨h1,_⟩:=up_in hn hp0 h;rw[h1]at am;cases am
   rw[am];refine⟨by simp[aa],fun h=>absurd h aa⟩
theorem lasts_eq{p:List UInt8}(hp:p=[]\/pathL p=true):∀(l:List Nd),(∀ e∈l,pathL e.path=true)->lastsL l p=(l.filter fun e=>decide (parentL e.path=p)).map fun e=>baseL e.path
 | [],_=>rfl
 | x::l,h=>by
  have ih:=lasts_eq hp l (fun e he=>h e (mem_cons_of_mem _ he));obtain⟨h1,h2⟩:=rest_names (h x (mem_cons_self)) hp;unfold lastsL inE at ih ⊢;by_cases hc:parentL x.path=p
  ·rw[decide_eq_true hc,Bool.and_eq_true]at h1;obtain⟨h3,h4⟩:=h1;rw[List.filter_cons_of_pos (by simpa using h3),map_cons,List.filter_cons_of_pos (by simpa using h4),ih,List.filter_cons_of_pos (by simpa using hc),map_cons,h2 hc]
  ·rw[List.filter_cons_of_neg (a:=x) (p:=fun e=>decide (parentL e.path=p)) (by simpa using hc),← ih];rw[decide_eq_false hc]at h1;by_cases hw:withinL x.path p=true
   ·rw[hw,Bool.true_and]at h1;rw[List.filter_cons_of_pos (by simpa using hw),map_cons,List.filter_cons_of_neg (by rw[h1];simp)]
   ·rw[List.filter_cons_of_neg (by simpa using hw)]
theorem find_treeD(I:List Ino)(ns:List Nd)(p:List UInt8):findN (ns.map (nodeOf I)) p=(findN ns p).map (nodeOf I):=by
 unfold findN;rw[List.find?_map];rfl
theorem names_treeD{D:Dk}(h:V D){p:List UInt8}(hp:p=[]\/pathL p=true)(hd:kindD D p=2):namesL (treeD D) p=lastsL D.names p:=by
 have ao:dirB (treeD D) p=true:=by
  unfold dirB;by_cases h0:p=[]
  ·simp[h0]
  ·unfold kindD kindN at hd;rw[if_neg h0]at hd;unfold treeD;rw[find_treeD]
   cases hf:findN D.names p with
   | none=>rw[hf]at hd;cases hd
   | some e =>
    rw[hf]at hd;simp only[Option.map_some];have:(nodeOf D.inos e).kind=2:=hd;rw[this];simp
 unfold namesL;rw[if_pos ⟨(tree_iff _).2 h.tree,ao⟩,lasts_eq hp D.names h.names.path];unfold treeD;rw[List.filter_map,List.map_map];rfl
end RK
end
end Go.Proofs.YtkmcjededpamnaaGreatDoor
