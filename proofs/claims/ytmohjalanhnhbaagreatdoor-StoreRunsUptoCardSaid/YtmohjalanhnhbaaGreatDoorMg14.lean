/- Texts of this seat, put one behind the other: what its statements share (part 14). -/
import Derived.Test.YtmohjalanhnhbaaGreatDoorMg10
import Derived.Test.YtmohjalanhnhbaaGreatDoorMg9
import Derived.Test.YtmohjalanhnhbaaGreatDoorRkCrash
set_option linter.all false
set_option maxRecDepth 100000
set_option maxHeartbeats 25600000
section
namespace Go.Proofs.YtmohjalanhnhbaaGreatDoor
open Go.RowKit Go.Lib Go.BigFrame
namespace RK
open OM TP TM DP DM FP DG TG TR
theorem posR_ge (S:List Nd) (x:Nd):∀ (k j:Nat),k<=S.length->posR S x k<=j->j<k->∃ y,S[j]?=some y/\0<NP.ordL y.path x.path
 | 0,j,_,_,hj=>absurd hj (by omega)
 | k+1,j,hk,hp,hj=>by
  unfold posR at hp
  by_cases h:0<NP.ordL ((S[k]?).getD x).path x.path
  ·rw [if_pos h] at hp
   by_cases e:j=k
   ·subst e
    have hj2:S[j]?=some S[j]:=List.getElem?_eq_getElem (by omega)
    rw [hj2] at h
    exact⟨_,hj2,h⟩
   ·exact posR_ge S x k j (by omega) hp (by omega)
  ·rw [if_neg h] at hp
   omega
theorem posR_top (S:List Nd) (x:Nd):∀ (k p:Nat),k<=S.length->posR S x k=p+1->∃ y,S[p]?=some y/\NP.ordL y.path x.path<=0
 | 0,p,_,h=>by unfold posR at h;omega
 | k+1,p,hk,h=>by
  unfold posR at h
  by_cases h1:0<NP.ordL ((S[k]?).getD x).path x.path
  ·rw [if_pos h1] at h
   exact posR_top S x k p (by omega) h
  ·rw [if_neg h1] at h
   obtain rfl:k=p:=by omega
   have hj2:S[k]?=some S[k]:=List.getElem?_eq_getElem (by omega)
   rw [hj2] at h1
   exact⟨_,hj2,Int.not_lt.1 h1⟩
theorem insR_iff {S:List Nd} {x e:Nd}:e∈insR S x↔e=x∨e∈S:=by
 unfold insR
 rw [List.mem_append,List.mem_cons]
 constructor
 ·rintro (h|h|h)
  ·exact .inr (List.mem_of_mem_take h)
  ·exact .inl h
  ·exact .inr (List.mem_of_mem_drop h)
 ·rintro (h|h)
  ·exact .inr (.inl h)
  ·rw [<- List.take_append_drop (posR S x S.length) S,List.mem_append] at h
   exact h.imp id .inr
theorem insR_sorted {S:List Nd} {x:Nd} (hs:Sorted S) (hne:∀ y∈S,y.path≠x.path):Sorted (insR S x):=by
 obtain⟨k,hk⟩:∃ k,posR S x S.length=k:=⟨_,rfl⟩
 have hkl:k<=S.length:=by rw [<- hk];exact posR_le S x _
 have hlo:∀ y∈S.take k,lt y x:=fun y hy=>by
  obtain⟨j,hj⟩:=List.getElem?_of_mem hy
  have hjk:j<k:=by
   have:=(List.getElem?_eq_some_iff.1 hj).1
   rw [List.length_take] at this
   omega
  rw [List.getElem?_take_of_lt hjk] at hj
  obtain⟨p,rfl⟩:∃ p,k=p+1:=⟨k-1,by omega⟩
  obtain⟨z,hz,h0⟩:=posR_top S x S.length p (Nat.le_refl _) hk
  have hz1:NP.ordL z.path x.path<0:=by
   have h3:NP.ordL z.path x.path≠0:=fun e=>hne z (List.mem_of_getElem? hz) ((NP.ordL_zero _ _).1 e)
   omega
  show NP.ordL y.path x.path<0
  by_cases e:j=p
  ·subst e
   rw [hz] at hj
   injection hj with hj
   rw [<- hj]
   exact hz1
  ·obtain⟨hj1,hj2⟩:=List.getElem?_eq_some_iff.1 hj
   obtain⟨hz2,hz3⟩:=List.getElem?_eq_some_iff.1 hz
   have h3:=List.pairwise_iff_getElem.1 hs j p hj1 hz2 (by omega)
   rw [hj2,hz3] at h3
   exact NP.ordL_lt h3 (Int.le_of_lt hz1)
 have hhi:∀ y∈S.drop k,lt x y:=fun y hy=>by
  obtain⟨j,hj⟩:=List.getElem?_of_mem hy
  rw [List.getElem?_drop] at hj
  have hjl:=(List.getElem?_eq_some_iff.1 hj).1
  obtain⟨z,hz,h0⟩:=posR_ge S x S.length (k+j) (Nat.le_refl _) (by rw [hk];omega) hjl
  rw [hj] at hz
  injection hz with hz
  subst hz
  show NP.ordL x.path y.path<0
  rw [NP.ordL_swap]
  omega
 unfold insR
 rw [hk]
 refine List.pairwise_append.2 ⟨hs.sublist (List.take_sublist _ _),List.pairwise_cons.2 ⟨hhi,hs.sublist (List.drop_sublist _ _)⟩,fun a ha b hb=>?_⟩
 rcases List.mem_cons.1 hb with h|h
 ·rw [h];exact hlo a ha
 ·exact NP.ordL_lt (hlo a ha) (Int.le_of_lt (hhi b h))
theorem fold_all:∀ (l S:List Nd),Sorted S->l.Pairwise (fun a b=>a.path≠b.path)->(∀ a∈S,∀ b∈l,a.path≠b.path)->Sorted (l.foldl insR S)/\∀ e,e∈l.foldl insR S↔e∈S∨e∈l
 | [],S,hs,_,_=>⟨hs,fun e=>by simp⟩
 | x::l,S,hs,hl,hb=>by
  obtain⟨h1,h2⟩:=List.pairwise_cons.1 hl
  have hx:=insR_sorted hs (x:=x) (fun y hy=>hb y hy x (List.mem_cons_self ..))
  obtain⟨h3,h4⟩:=fold_all l (insR S x) hx h2 (fun a ha b hb2=>by
   rcases insR_iff.1 ha with h|h
   ·rw [h];exact h1 b hb2
   ·exact hb a h b (List.mem_cons_of_mem _ hb2))
  refine⟨h3,fun e=>(h4 e).trans ?_⟩
  rw [insR_iff,List.mem_cons]
  constructor
  ·rintro ((h|h)|h)
   ·exact .inr (.inl h)
   ·exact .inl h
   ·exact .inr (.inr h)
  ·rintro (h|h|h)
   ·exact .inl (.inr h)
   ·exact .inl (.inl h)
   ·exact .inr h
theorem sortK_all {l:List Nd} (hl:l.Pairwise (fun a b=>a.path≠b.path)):Sorted (sortK l l.length)/\∀ e,e∈sortK l l.length↔e∈l:=by
 unfold sortK
 rw [List.take_length]
 obtain⟨h1,h2⟩:=fold_all l [] List.Pairwise.nil hl (fun a ha=>by cases ha)
 exact⟨h1,fun e=>(h2 e).trans (by simp)⟩
theorem sorted_apart {l:List Nd} (hs:Sorted l):l.Pairwise (fun a b=>a.path≠b.path) :=
 List.Pairwise.imp (R:=lt) (fun {a b} h e=>by
  have h1:NP.ordL a.path b.path<0:=h
  have h2:=(NP.ordL_zero a.path b.path).2 e
  omega) hs
theorem sortK_self {l:List Nd} (hs:Sorted l):sortK l l.length=l :=
 sorted_ext (sortK_all (sorted_apart hs)).1 hs (sortK_all (sorted_apart hs)).2
theorem sortK_more {l:List Nd} {e:Nd} (hs:Sorted l) (hne:∀ y∈l,y.path≠e.path):sortK (l++[e]) (l.length+1)=insE l e:=by
 have hp:(l++[e]).Pairwise (fun a b=>a.path≠b.path):=List.pairwise_append.2 ⟨sorted_apart hs,List.pairwise_singleton _ _,fun a ha b hb=>by rw [List.mem_singleton.1 hb];exact hne a ha⟩
 have h:=sortK_all hp
 rw [List.length_append,List.length_singleton] at h
 refine sorted_ext h.1 (sorted_ins hs hne) fun n=>?_
 rw [h.2,mem_ins,List.mem_append,List.mem_singleton,or_comm]
theorem delE_none {ns:List Nd} {p:List UInt8} (h:∀ y∈ns,y.path≠p):delE ns p=ns :=
 List.filter_eq_self.2 fun y hy=>by simpa using h y hy
theorem chgR_more {D:Dk} {e:Nd} (hs:Sorted D.names) (hk:e.kind≠0) (hne:∀ y∈D.names,y.path≠e.path):chgR D (sortK (D.names++[e]) (D.names.length+1))=changeD D [e]:=by
 have h:withE D.names [e]=insE D.names e:=by
  show putE D.names e=_
  unfold putE
  rw [if_neg hk,delE_none hne]
 unfold chgR changeD
 rw [sortK_more hs hne,h]
theorem chgR_less {D:Dk} {p:List UInt8} (hs:Sorted D.names):chgR D (sortK (delE D.names p) (delE D.names p).length)=changeD D [en p 0]:=by
 have h:withE D.names [en p 0]=delE D.names p:=by
  show putE D.names (en p 0)=_
  unfold putE
  rw [if_pos (show (en p 0).kind=0 from rfl)]
  rfl
 unfold chgR changeD
 have h2:sortK (delE D.names p) (delE D.names p).length=delE D.names p:=sortK_self (hs.sublist List.filter_sublist)
 rw [h2,h]
theorem withR_change {D:Dk} {p:List UInt8} {i:Ino} (hs:Sorted D.names) (hne:∀ y∈D.names,y.path≠p):withR D p i=changeD (inosR D (D.inos++[i])) [en p ((D.inos.length+1:Nat):Int)]:=by
 have h:=chgR_more (D:=inosR D (D.inos++[i])) (e:=en p ((D.inos.length+1:Nat):Int)) hs (by show ((D.inos.length+1:Nat):Int)≠0;omega) hne
 exact h
end RK
end Go.Proofs.YtmohjalanhnhbaaGreatDoor
end

section
namespace Go.Proofs.YtmohjalanhnhbaaGreatDoor
open Go.RowKit Go.Lib
namespace RK
open OM TP TM DP DM FP DG NP
def okI (i:Ino):Prop:=rightB ⟨[],i.kind,i.data,i.mode⟩=true/\(i.dirty=true->i.kind=1)
theorem okI_kind {i:Ino} (h:okI i):i.kind=1∨i.kind=2∨i.kind=3:=by
 have h1:=h.1
 unfold rightB at h1
 simp only at h1
 by_cases a:i.kind=1
 ·exact .inl a
 ·by_cases b:i.kind=2
  ·exact .inr (.inl b)
  ·by_cases c:i.kind=3
   ·exact .inr (.inr c)
   ·rw [if_neg a,if_neg b,if_neg c] at h1
    cases h1
theorem okI_data {i:Ino} (h:okI i):i.data.length<=65536:=right_data (n:=⟨[],i.kind,i.data,i.mode⟩) h.1
theorem right_any {n:Nd} {i:Ino} (h:rightB n=true) (h1:i.kind=n.kind) (h2:i.data=n.data) (h3:i.mode=n.mode):rightB ⟨[],i.kind,i.data,i.mode⟩=true:=by
 rw [h1,h2,h3]
 exact h
structure G (I:List Ino) (l:List Nd):Prop where
 ino:∀ e∈l,∃ k:Nat,e=en e.path k/\1<=k/\k<=I.length
 sorted:Sorted l
 len:l.length<=1000
 path:∀ e∈l,pathL e.path=true
 up:∀ e∈l,upL e.path=[]∨∃ d∈l,d.path=upL e.path/\(inoOf I d.kind).kind=2
theorem G.row {I:List Ino} {l:List Nd} (h:G I l):Row I.length l:=⟨h.sorted,h.path,h.len,h.ino⟩
theorem G.nil (I:List Ino):G I []:=⟨fun _ h=>(by cases h),List.Pairwise.nil,Nat.zero_le _,fun _ h=>(by cases h),fun _ h=>(by cases h)⟩
theorem ino_is {I:List Ino} {k:Nat} (h1:1<=k) (h2:k<=I.length):∃ i,I[k-1]?=some i/\inoOf I (k:Int)=i:=by
 refine⟨I[k-1],List.getElem?_eq_getElem (by omega),?_⟩
 unfold inoOf
 rw [List.getD_eq_getElem?_getD,show (k:Int).toNat-1=k-1 by omega,List.getElem?_eq_getElem (by omega)]
 rfl
theorem G.okI {I:List Ino} {l:List Nd} (h:G I l) (hI:∀ i∈I,RK.okI i) {e:Nd} (he:e∈l):RK.okI (inoOf I e.kind):=by
 obtain⟨k,h1,h2,h3⟩:=h.ino e he
 obtain⟨i,hi,hio⟩:=ino_is h2 h3
 rw [h1]
 show RK.okI (inoOf I (k:Int))
 rw [hio]
 exact hI i (List.mem_of_getElem? hi)
theorem G.tree {I:List Ino} {l:List Nd} (h:G I l) (hI:∀ i∈I,RK.okI i):Tree (l.map (nodeOf I)):=by
 refine⟨by rw [List.length_map];exact h.len,?_,?_,?_,?_⟩
 ·exact List.pairwise_map.2 (h.sorted.imp (fun {a b} hab=>hab))
 ·intro n hn
  obtain⟨e,he,rfl⟩:=List.mem_map.1 hn
  exact h.path e he
 ·intro n hn
  obtain⟨e,he,rfl⟩:=List.mem_map.1 hn
  exact (h.okI hI he).1
 ·intro n hn
  obtain⟨e,he,rfl⟩:=List.mem_map.1 hn
  rcases h.up e he with h1|⟨d,hd,h1,h2⟩
  ·exact .inl h1
  ·exact .inr ⟨nodeOf I d,List.mem_map.2 ⟨d,hd,rfl⟩,h1,h2⟩
theorem G.inos {I J:List Ino} {l:List Nd} (h:G I l) (hl:I.length<=J.length) (hk:∀ k:Nat,1<=k->k<=I.length->(inoOf J (k:Int)).kind=(inoOf I (k:Int)).kind):G J l:=by
 refine⟨fun e he=>?_,h.sorted,h.len,h.path,fun e he=>?_⟩
 ·obtain⟨k,h1,h2,h3⟩:=h.ino e he
  exact⟨k,h1,h2,by omega⟩
 ·rcases h.up e he with h1|⟨d,hd,h1,h2⟩
  ·exact .inl h1
  ·obtain⟨k,h3,h4,h5⟩:=h.ino d hd
   refine .inr ⟨d,hd,h1,?_⟩
   rw [h3] at h2 ⊢
   exact (hk k h4 h5).trans h2
theorem ino_app {I J:List Ino} {k:Nat} (h1:1<=k) (h2:k<=I.length):inoOf (I++J) (k:Int)=inoOf I (k:Int):=by
 unfold inoOf
 rw [List.getD_eq_getElem?_getD,List.getD_eq_getElem?_getD,List.getElem?_append_left (by omega)]
theorem G.more {I:List Ino} {l:List Nd} (h:G I l) (J:List Ino):G (I++J) l:=h.inos (by simp) (fun k h1 h2=>by rw [ino_app h1 h2])
theorem ino_set {I:List Ino} {q:Nat} {i:Ino} (hq:i.kind=(inoOf I (q:Int)).kind) {k:Nat} (h2:1<=k) (h3:k<=I.length) (h4:1<=q):(inoOf (I.set (q-1) i) (k:Int)).kind=(inoOf I (k:Int)).kind:=by
 by_cases hkq:k=q
 ·subst hkq
  unfold inoOf at hq ⊢
  rw [List.getD_eq_getElem?_getD,List.getD_eq_getElem?_getD] at *
  rw [show ((k:Int).toNat-1)=k-1 by omega] at *
  rw [List.getElem?_set_self (by omega)]
  exact hq
 ·unfold inoOf
  rw [List.getD_eq_getElem?_getD,List.getD_eq_getElem?_getD,List.getElem?_set_ne (by omega)]
theorem G.set {I:List Ino} {l:List Nd} (h:G I l) {q:Nat} (h1:1<=q) {i:Ino} (hq:i.kind=(inoOf I (q:Int)).kind):G (I.set (q-1) i) l :=
 h.inos (by simp) (fun _ h2 h3=>ino_set hq h2 h3 h1)
theorem clean_kind (torn:Int) (i:Ino):(DP.clean torn i).kind=i.kind:=by
 unfold DP.clean
 split<;>rfl
theorem G.cleaned {I:List Ino} {l:List Nd} (h:G I l) (torn:Int):G (I.map (DP.clean torn)) l:=h.inos (by simp) (fun k h1 h2=>by
 obtain⟨i,hi,hio⟩:=ino_is h1 h2
 rw [hio]
 obtain⟨j,hj,hjo⟩:=ino_is (I:=I.map (DP.clean torn)) h1 (by simpa using h2)
 rw [hjo]
 rw [List.getElem?_map,hi] at hj
 injection hj with hj
 rw [<- hj]
 exact clean_kind torn i)
theorem G.del {I:List Ino} {l:List Nd} (h:G I l) {p:List UInt8} (hp:p≠[]) (hno:∀ e∈l,upL e.path≠p):G I (delE l p):=by
 refine⟨fun e he=>h.ino e (mem_del.1 he).1,sorted_del h.sorted p,Nat.le_trans (List.length_filter_le _ _) h.len,fun e he=>h.path e (mem_del.1 he).1,fun e he=>?_⟩
 rcases h.up e (mem_del.1 he).1 with h1|⟨d,hd,h1,h2⟩
 ·exact .inl h1
 ·exact .inr ⟨d,mem_del.2 ⟨hd,fun e2=>hno e (mem_del.1 he).1 (h1.symm.trans e2)⟩,h1,h2⟩
theorem G.put {I:List Ino} {l:List Nd} (h:G I l) {p:List UInt8} {k:Nat} (h1:1<=k) (h2:k<=I.length) (hp:pathL p=true) (hu:upL p=[]∨∃ d∈l,d.path=upL p/\(inoOf I d.kind).kind=2) (hnd:∀ d∈l,d.path=p->(inoOf I d.kind).kind≠2) (hlen:(putE l (en p k)).length<=1000):G I (putE l (en p k)):=by
 have up:∀ q:List UInt8,(∃ d∈l,d.path=q/\(inoOf I d.kind).kind=2)->∃ d∈putE l (en p k),d.path=q/\(inoOf I d.kind).kind=2:=by
  rintro q ⟨d,hd,h3,h4⟩
  exact⟨d,mem_put.2 (.inl ⟨hd,fun e=>hnd d hd e h4⟩),h3,h4⟩
 refine⟨fun e he=>?_,sorted_put h.sorted _,hlen,fun e he=>?_,fun e he=>?_⟩
 ·rcases mem_put.1 he with he|⟨_,rfl⟩
  ·exact h.ino e he.1
  ·exact⟨k,rfl,h1,h2⟩
 ·rcases mem_put.1 he with he|⟨_,rfl⟩
  ·exact h.path e he.1
  ·exact hp
 ·rcases mem_put.1 he with he|⟨_,rfl⟩
  ·exact (h.up e he.1).imp id (up _)
  ·exact hu.imp id (up _)
structure V (D:Dk):Prop where
 names:G D.inos D.names
 safe:G D.inos D.safe
 later:∀ l∈D.later,G D.inos l
 ino:∀ i∈D.inos,okI i
 edits:∀ e∈D.edits,e.path.length<=1048576/\TR.Small e.value/\e.value.length<=maxLen
theorem V.fit {D:Dk} (h:V D):Fit D:=⟨h.names.row,h.safe.row,fun l hl=>(h.later l hl).row,fun i hi=>okI_data (h.ino i hi)⟩
theorem V.tree {D:Dk} (h:V D):Tree (treeD D):=h.names.tree h.ino
theorem V.turn {D D':Dk} (h:V D) (h1:D'.names=D.names) (h2:D'.safe=D.safe) (h3:D'.later=D.later) (h4:D'.inos=D.inos) (h5:D'.edits=D.edits):V D':=by
 refine⟨?_,?_,?_,?_,?_⟩
 ·rw [h4,h1];exact h.names
 ·rw [h4,h2];exact h.safe
 ·rw [h4,h3];exact h.later
 ·rw [h4];exact h.ino
 ·rw [h5];exact h.edits
theorem V.more {D:Dk} (h:V D) {J:List Ino} (hJ:∀ i∈J,okI i):V { D with inos:=D.inos++J } :=
 ⟨h.names.more J,h.safe.more J,fun l hl=>(h.later l hl).more J,fun i hi=>(List.mem_append.1 hi).elim (h.ino i) (hJ i),h.edits⟩
theorem V.change {D:Dk} (h:V D) {c:List Nd} (hg:G D.inos (withE D.names c)):V (changeD D c) :=
 ⟨hg,h.safe,fun l hl=>(List.mem_append.1 hl).elim (h.later l) (fun h2=>by rw [List.mem_singleton.1 h2];exact hg),h.ino,h.edits⟩
theorem V.settle {D:Dk} (h:V D):V (settleD D):=⟨h.names,h.names,fun l hl=>(by cases hl),h.ino,h.edits⟩
theorem V.setI {D:Dk} (h:V D) (p:List UInt8) (f:Ino->Ino) (hk:∀ e∈D.names,e.path=p->(f (inoOf D.inos e.kind)).kind=(inoOf D.inos e.kind).kind/\okI (f (inoOf D.inos e.kind))):V (setI D p f):=by
 unfold DP.setI
 cases hf:findN D.names p with
 | none=>exact h
 | some e =>
  obtain⟨he,hep⟩:=find_mem hf
  obtain⟨k,h1,h2,h3⟩:=h.names.ino e he
  obtain⟨h4,h5⟩:=hk e he hep
  have hkk:e.kind=(k:Int):=by rw [h1];rfl
  rw [hkk] at h4 h5
  have hs:e.kind.toNat-1=k-1:=by rw [hkk];omega
  simp only
  rw [hs,hkk]
  refine⟨h.names.set h2 h4,h.safe.set h2 h4,fun l hl=>(h.later l hl).set h2 h4,fun i hi=>?_,h.edits⟩
  rcases List.mem_or_eq_of_mem_set hi with h6|h6
  ·exact h.ino i h6
  ·rw [h6];exact h5
theorem okI_clean {i:Ino} (h:okI i) (torn:Int):okI (DP.clean torn i):=by
 unfold DP.clean
 split
 ·rename_i hd
  have hk:=h.2 hd
  have h1:=h.1
  refine⟨?_,fun e=>by cases e⟩
  unfold rightB at h1 ⊢
  simp only [hk,if_pos] at h1 ⊢
  simp only [Bool.and_eq_true,decide_eq_true_eq] at h1 ⊢
  refine⟨⟨?_,h1.1.2⟩,h1.2⟩
  rw [List.length_take]
  have:=h1.1.1
  omega
 ·exact h
theorem V.kept {D:Dk} (h:V D) (keep:Int):G D.inos (keptD D keep):=by
 unfold keptD
 split
 ·exact h.safe
 ·rename_i h0
  have hk:keepN D keep-1<D.later.length:=by unfold keepN at h0 ⊢;omega
  rw [List.getD_eq_getElem?_getD,List.getElem?_eq_getElem hk]
  exact h.later _ (List.getElem_mem hk)
theorem V.crash {D:Dk} (h:V D) (keep torn:Int):V (crashD D keep torn) :=
 ⟨(h.kept keep).cleaned torn,(h.kept keep).cleaned torn,(fun l hl=>by cases hl),fun i hi=>by
  obtain⟨j,hj,rfl⟩:=List.mem_map.1 hi
  exact okI_clean (h.ino j hj) torn,h.edits⟩
theorem V.boot {D:Dk} (h:V D) (fs:List Fate) {es:List Edit} (he:∀ e∈es,e.path.length<=1048576/\TR.Small e.value/\e.value.length<=maxLen):V (bootD D fs es):=⟨h.names,h.safe,h.later,h.ino,he⟩
theorem okI_fresh (D:Dk) {n:Nd} (h:rightB n=true):okI (freshI D n):=⟨right_any (i:=freshI D n) h rfl rfl rfl,fun e=>by cases e⟩
theorem V.new {t:List Nd} (h:Tree t):V (newD t):=by
 have hi:∀ i∈(newD t).inos,okI i:=fun i hi=>by
  obtain⟨n,hn,rfl⟩:=List.mem_map.1 (show i∈t.map (freshI emptyD) from hi)
  exact okI_fresh _ (h.right n hn)
 have hr:=new_row h
 have hg:G (newD t).inos (newD t).names:=by
  refine⟨hr.ino,hr.sorted,hr.len,hr.path,fun e he=>?_⟩
  obtain⟨j,x,hx,rfl⟩:=new_kind e he
  rcases h.dir x (List.mem_of_getElem? hx) with h1|⟨d,hd,h1,h2⟩
  ·exact .inl h1
  ·obtain⟨i,hi,hid⟩:=List.getElem_of_mem hd
   have hdi:t[i]?=some d:=by rw [List.getElem?_eq_getElem hi,hid]
   refine .inr ⟨en d.path ((i+1:Nat):Int),?_,h1,?_⟩
   ·rw [new_names]
    refine List.mem_mapIdx.2 ⟨i,hi,?_⟩
    rw [show ((1+i:Nat):Int)=((i+1:Nat):Int) by omega,hid]
   ·show (inoOf (newD t).inos ((i+1:Nat):Int)).kind=2
    rw [new_ino hdi]
    exact h2
 exact⟨hg,hg,(fun l hl=>by cases hl),hi,fun e he=>by cases he⟩
theorem mem_new:∀ (c l:List Nd) (x:Nd),c.Pairwise (fun a b=>a.path≠b.path)->(∀ e∈c,e.kind≠0)->(x∈withE l c↔x∈c∨(x∈l/\∀ e∈c,x.path≠e.path))
 | [],l,x,_,_=>by show x∈l↔_;simp
 | a::c,l,x,hp,hk=>by
  have hp2:=List.Pairwise.of_cons hp
  have hp1:=fun b hb=>List.rel_of_pairwise_cons hp (a':=b) hb
  have ih:=mem_new c (putE l a) x hp2 (fun e he=>hk e (List.mem_cons_of_mem _ he))
  show x∈withE (putE l a) c↔_
  rw [ih,mem_put,List.mem_cons]
  have ha:=hk a (List.mem_cons_self ..)
  constructor
  ·rintro (h|⟨h|h,h2⟩)
   ·exact .inl (.inr h)
   ·refine .inr ⟨h.1,fun e he=>?_⟩
    rcases List.mem_cons.1 he with rfl|he
    ·exact h.2
    ·exact h2 e he
   ·exact .inl (.inl h.2)
  ·rintro ((h|h)|⟨h,h2⟩)
   ·subst h
    exact .inr ⟨.inr ⟨ha,rfl⟩,fun e he=>hp1 e he⟩
   ·exact .inl h
   ·exact .inr ⟨.inl ⟨h,h2 a (List.mem_cons_self ..)⟩,fun e he=>h2 e (List.mem_cons_of_mem _ he)⟩
theorem freshes_pair (D:Dk) {F:List Nd} (h:Sorted F):(freshes D F).Pairwise (fun a b=>a.path≠b.path):=by
 unfold freshes
 rw [List.pairwise_iff_getElem]
 intro i j hi hj hij
 rw [List.getElem_mapIdx,List.getElem_mapIdx]
 have hl:(F.mapIdx fun i n=>en n.path (D.inos.length+1+i:Nat)).length=F.length:=by simp
 have h1:=List.pairwise_iff_getElem.1 h i j (by omega) (by omega) hij
 intro e
 have h2:ordL (F[i]'(by omega)).path (F[j]'(by omega)).path<0:=h1
 have h3:(F[i]'(by omega)).path=(F[j]'(by omega)).path:=e
 rw [h3] at h2
 exact ord_irr _ h2
theorem mem_edit {D:Dk} {p:List UInt8} {t:List Nd} (ht:Sorted t) (x:Nd):x∈withE D.names (outE D.names p++freshes D (inE t p))↔x∈freshes D (inE t p)∨(x∈D.names/\withinL x.path p=false):=by
 rw [with_app,out_gone,mem_new (freshes D (inE t p)) _ _ (freshes_pair D (show Sorted (inE t p) from sorted_filter ht _)) (fun e he=>by
  have:=(freshes_kind D _ e he).1
  omega),List.mem_filter]
 constructor
 ·rintro (h|⟨⟨h1,h2⟩,_⟩)
  ·exact .inl h
  ·exact .inr ⟨h1,by simpa using h2⟩
 ·rintro (h|⟨h1,h2⟩)
  ·exact .inl h
  ·refine .inr ⟨⟨h1,by simpa using h2⟩,fun e he e2=>?_⟩
   obtain⟨_,_,y,hy,hye,_⟩:=freshes_kind D _ e he
   rw [e2,hye,(List.mem_filter.1 hy).2] at h2
   cases h2
theorem fresh_at {D:Dk} {F:List Nd} {x:Nd} (hx:x∈F):∃ e∈freshes D F,e.path=x.path/\inoOf (D.inos++F.map (freshI D)) e.kind=freshI D x:=by
 obtain⟨i,hi,rfl⟩:=List.getElem_of_mem hx
 refine⟨en F[i].path ((D.inos.length+1+i:Nat):Int),List.mem_mapIdx.2 ⟨i,hi,rfl⟩,rfl,?_⟩
 show inoOf _ ((D.inos.length+1+i:Nat):Int)=_
 unfold inoOf
 rw [List.getD_eq_getElem?_getD,show ((D.inos.length+1+i:Nat):Int).toNat-1=D.inos.length+i by omega,List.getElem?_append_right (by omega),Nat.add_sub_cancel_left,List.getElem?_map,List.getElem?_eq_getElem hi]
 rfl
theorem V.edit {D:Dk} (h:V D) (p:List UInt8) (v:List Nd):V (editD D p v):=by
 unfold editD
 split
 ·rename_i h0
  rcases put_cases (treeD D) p v with ⟨h1,h2⟩|⟨e,h2⟩
  ·rw [h2]
   have ht:=out_tree h1
   obtain⟨t,htt⟩:∃ t,outL (treeD D) p v=t:=⟨_,rfl⟩
   show V (editC D p (outL (treeD D) p v))
   have hmo:=mem_out (treeD D) p v
   have hln:=edit_lens (ns:=D.names) (t:=treeD D) (v:=v) (p:=p) (D:=D) (I:=D.inos) h.names.len rfl h1.len
   have hpp:=h1.path
   have hwi:∀ m∈v,withinL (placeN p m).path p=true:=fun m hm=>place_within (path_ne hpp) (h1.all m hm)
   rw [htt] at ht hmo hln ⊢
   have hl2:=hln ((outE D.names p).length+(freshes D (inE t p)).length)
   rw [List.take_of_length_le (by rw [List.length_append];omega)] at hl2
   have hJ:∀ i∈(inE t p).map (freshI D),okI i:=fun i hi=>by
    obtain⟨n,hn,rfl⟩:=List.mem_map.1 hi
    exact okI_fresh _ (ht.right n (List.mem_filter.1 hn).1)
   unfold editC
   refine V.change (D:={ D with inos:=D.inos++(inE t p).map (freshI D) }) (h.more hJ) ?_
   show G (D.inos++(inE t p).map (freshI D)) (withE D.names (outE D.names p++freshes D (inE t p)))
   have hm:=mem_edit (D:=D) (p:=p) ht.sorted
   refine⟨fun e he=>?_,sorted_with h.names.sorted _,hl2,fun e he=>?_,fun e he=>?_⟩
   ·rcases (hm e).1 he with he|he
    ·obtain⟨h3,h4,_,_,_,k,h5⟩:=freshes_kind D _ e he
     rw [freshAll_len] at h4
     rw [h5] at h3 h4
     refine⟨k,h5,?_,?_⟩
     ·have:(1:Int)<=(k:Int):=h3
      omega
     ·have:(k:Int)<=((D.inos.length+(inE t p).length:Nat):Int):=h4
      rw [List.length_append,List.length_map]
      omega
    ·obtain⟨k,h3,h4,h5⟩:=h.names.ino e he.1
     exact⟨k,h3,h4,by rw [List.length_append];omega⟩
   ·rcases (hm e).1 he with he|he
    ·obtain⟨_,_,y,hy,hye,_⟩:=freshes_kind D _ e he
     rw [hye]
     exact ht.path y (List.mem_filter.1 hy).1
    ·exact h.names.path e he.1
   ·-- the directory above
    have hdir:∀ q:List UInt8,(∃ d∈t,d.path=q/\d.kind=2)->∃ d∈withE D.names (outE D.names p++freshes D (inE t p)),d.path=q/\(inoOf (D.inos++(inE t p).map (freshI D)) d.kind).kind=2:=by
     rintro q ⟨d,hd,h3,h4⟩
     by_cases hw:withinL d.path p=true
     ·obtain⟨e2,he2,h5,h6⟩:=fresh_at (D:=D) (F:=inE t p) (x:=d) (List.mem_filter.2 ⟨hd,hw⟩)
      exact⟨e2,(hm e2).2 (.inl he2),h5.trans h3,by rw [h6];exact h4⟩
     ·have hw2:withinL d.path p=false:=by simpa using hw
      rcases (hmo d).1 hd with ⟨h5,_⟩|⟨m,hm2,rfl⟩
      ·obtain⟨e2,he2,rfl⟩:=List.mem_map.1 h5
       obtain⟨k,h6,h7,h8⟩:=h.names.ino e2 he2
       refine⟨e2,(hm e2).2 (.inr ⟨he2,hw2⟩),h3,?_⟩
       rw [h6]
       show (inoOf _ (k:Int)).kind=2
       rw [ino_app h7 h8]
       have h9:(inoOf D.inos e2.kind).kind=2:=h4
       rw [h6] at h9
       exact h9
      ·rw [hwi m hm2] at hw2
       cases hw2
    have hup:∀ y∈t,upL y.path=[]∨∃ d∈withE D.names (outE D.names p++freshes D (inE t p)),d.path=upL y.path/\(inoOf (D.inos++(inE t p).map (freshI D)) d.kind).kind=2:=fun y hy=>(ht.dir y hy).imp id (hdir _)
    rcases (hm e).1 he with he|he
    ·obtain⟨_,_,y,hy,hye,_⟩:=freshes_kind D _ e he
     rw [hye]
     exact hup y (List.mem_filter.1 hy).1
    ·exact hup (nodeOf D.inos e) ((hmo _).2 (.inl ⟨List.mem_map.2 ⟨e,he.1,rfl⟩,he.2⟩))
  ·rw [h2] at h0
   simp at h0
 ·exact h
theorem V.editsD:∀ (es:List Edit) {D:Dk},V D->∀ n:Nat,V (DP.editsD D n es)
 | [],D,h,n=>h
 | e::es,D,h,n=>by
  show V (DP.editsD (if e.at_=(n:Int) then editD D e.path e.value else D) n es)
  refine V.editsD es ?_ n
  split
  ·exact h.edit _ _
  ·exact h
theorem V.begun {D:Dk} (h:V D) (c:Did):V (begunD D c):=by
 have h1:V { D with clock:=D.clock+1 }:=h.turn rfl rfl rfl rfl rfl
 exact (V.editsD D.edits h1 D.trace.length).turn rfl rfl rfl rfl rfl
theorem V.step {D:Dk} (h:V D) (c:Did):V (stepD D c).1:=by
 unfold stepD
 split
 ·exact h
 ·split
  ·exact (h.begun c).crash _ _
  ·split
   ·exact h.begun c
   ·exact h.begun c
theorem V.after {D:Dk} (h:V D) (c:Did) {f:Dk->Dk×Int} (hf:∀ E,V E->V (f E).1):V (DP.after (stepD D c) f).1:=by
 unfold DP.after
 split
 ·exact hf _ (h.step c)
 ·exact h.step c
theorem V.refuse {e:Int} {E E':Dk} (h:V E) (h':e=0->V E'):V (DP.refuse e E E').1:=by
 unfold DP.refuse
 split
 ·rename_i h0
  exact h' h0
 ·exact h
end RK
end Go.Proofs.YtmohjalanhnhbaaGreatDoor
end

section
namespace Go.Proofs.YtmohjalanhnhbaaGreatDoor
open Go.RowKit Go.Lib
namespace RK
open OM TP TM DP DM FP DG NP
theorem V.kind {D:Dk} (h:V D) {p:List UInt8} (hp:p≠[]):(kindD D p=0/\∀ e∈D.names,e.path≠p)∨∃ e∈D.names,e.path=p/\findN D.names p=some e/\inoN D.names p=e.kind/\kindD D p=(inoOf D.inos e.kind).kind/\okI (inoOf D.inos e.kind):=by
 rcases kind_ino (I:=D.inos) hp h.names.row with ⟨h1,h2⟩|⟨e,he,hep,hf,h1,h3,h2⟩
 ·refine .inl ⟨h2,fun e he e2=>?_⟩
  have:=find_of h.names.sorted he
  rw [e2] at this
  unfold inoN at h1
  rw [this] at h1
  obtain⟨k,h3,h4,_⟩:=h.names.ino e he
  rw [h3] at h1
  have:(k:Int)=0:=h1
  omega
 ·exact .inr ⟨e,he,hep,hf,h1,h2,h.names.okI h.ino he⟩
theorem V.up {D:Dk} (h:V D) {p:List UInt8} (hp:pathL p=true) (hu:upB D p=true):upL p=[]∨∃ d∈D.names,d.path=upL p/\(inoOf D.inos d.kind).kind=2:=by
 unfold upB parentL at hu
 rw [if_pos hp] at hu
 have hu2:=of_decide_eq_true hu
 by_cases h0:upL p=[]
 ·exact .inl h0
 ·rcases h.kind h0 with ⟨h1,_⟩|⟨e,he,hep,_,_,h2,_⟩
  ·unfold kindD at h1
   rw [h1] at hu2
   cases hu2
  ·refine .inr ⟨e,he,hep,?_⟩
   rw [<- h2]
   exact hu2
theorem stand_right {n:Nd} (h:standB n=true):rightB n=true:=by
 have hv:=(val_iff _).1 h
 exact hv.right { n with path:=[] } (List.mem_singleton.2 rfl)
theorem V.laid_all {D:Dk} (h:V D) {n:Nd} (hp:pathL n.path=true) (hr:rightB n=true) (hu:upB D n.path=true) (h0:kindD D n.path=0) (hl:D.names.length<1000):V (laidD D n):=by
 have h1:V (freshD D n):=h.more (J:=[freshI D n]) (fun i hi=>by rw [List.mem_singleton.1 hi];exact okI_fresh D hr)
 have hno:∀ e∈D.names,e.path≠n.path:=by
  rcases h.kind (path_ne hp) with ⟨_,h2⟩|⟨e,_,_,_,_,h2,h3⟩
  ·exact h2
  ·rw [h0] at h2
   rcases okI_kind h3 with h4|h4|h4<;>omega
 unfold laidD
 refine h1.change ?_
 show G (D.inos++[freshI D n]) (putE D.names (en n.path (D.inos.length+1:Nat)))
 refine (h.names.more [freshI D n]).put (by omega) (by simp) hp ?_ (fun d hd e=>absurd e (hno d hd)) (Nat.le_trans (put_len _ _) (by omega))
 rcases h.up hp hu with h2|⟨d,hd,h3,h4⟩
 ·exact .inl h2
 ·obtain⟨k,h5,h6,h7⟩:=h.names.ino d hd
  refine .inr ⟨d,hd,h3,?_⟩
  rw [h5] at h4 ⊢
  show (inoOf _ (k:Int)).kind=2
  rw [ino_app h6 h7]
  exact h4
theorem room_len {D:Dk} {p:List UInt8} (h:roomB D p=true) (h0:kindD D p=0):D.names.length<1000:=by
 unfold roomB at h
 simp only [Bool.and_eq_true,Bool.not_eq_true',decide_eq_true_eq] at h
 have h2:=h.2
 rw [h0] at h2
 by_cases hl:1000<=D.names.length
 ·simp [hl] at h2
 ·omega
theorem V.wrote {D:Dk} (h:V D) {p dt:List UInt8} {md:Int} (he:writeE D p dt md=0):V (wroteD D p dt md):=by
 unfold writeE at he
 obtain⟨e1,he⟩:=first_cons he
 obtain⟨e2,he⟩:=first_cons he
 obtain⟨e3,he⟩:=first_cons he
 obtain⟨e4,he⟩:=first_cons he
 obtain⟨e5,he⟩:=first_cons he
 have h1:=when_zero e1 (by decide)
 have h2:=when_zero e2 (by decide)
 have h3:=when_zero e3 (by decide)
 have h4:=when_zero e4 (by decide)
 have h5:=when_zero e5 (by decide)
 simp only [Bool.not_eq_false',Bool.or_eq_false_iff,decide_eq_false_iff_not] at h1 h2 h3 h4 h5
 have hr:=stand_right h2
 have hw:∀ (E:Dk) (i:Ino),i.kind=1->(wroteI E dt md i).kind=i.kind/\okI (wroteI E dt md i):=fun E i hi=>⟨rfl,right_any (i:=wroteI E dt md i) hr hi rfl rfl,fun _=>hi⟩
 unfold wroteD
 by_cases h0:kindD D p=0
 ·rw [if_pos h0]
  have hl:=h.laid_all (n:=⟨p,1,dt,md⟩) h1 hr h3 h0 (room_len h5 h0)
  refine V.setI hl p _ fun e he hep=>hw _ _ ?_
  have hno:∀ e∈D.names,e.path≠p:=by
   rcases h.kind (path_ne h1) with ⟨_,h6⟩|⟨e,_,_,_,_,h6,h7⟩
   ·exact h6
   ·rw [h0] at h6
    rcases okI_kind h7 with h8|h8|h8<;>omega
  have he2:e∈putE D.names (en p (D.inos.length+1:Nat)):=he
  rcases mem_put.1 he2 with h6|⟨_,rfl⟩
  ·exact absurd hep (hno e h6.1)
  ·show (inoOf (D.inos++[freshI D ⟨p,1,dt,md⟩]) ((D.inos.length+1:Nat):Int)).kind=1
   unfold inoOf
   rw [List.getD_eq_getElem?_getD,show (((D.inos.length+1:Nat):Int).toNat-1)=D.inos.length by omega,List.getElem?_append_right (Nat.le_refl _),Nat.sub_self]
   rfl
 ·rw [if_neg h0]
  refine h.setI p _ fun e he hep=>hw _ _ ?_
  rcases h.kind (path_ne h1) with ⟨h6,_⟩|⟨e2,he2,hep2,_,_,h7,h8⟩
  ·exact absurd h6 h0
  ·have:e=e2:=sorted_one h.names.sorted he he2 (hep.trans hep2.symm)
   subst this
   rw [h7] at h4
   rcases okI_kind h8 with h9|h9|h9
   ·exact h9
   ·exact absurd h9 h4.1
   ·exact absurd h9 h4.2
theorem two_in {l:List Nd} {a b:Nd} (ha:a∈l) (hb:b∈l) (h:a≠b):1<l.length:=by
 match l,ha,hb with
 | [x],ha,hb =>
  rw [List.mem_singleton] at ha hb
  exact absurd (ha.trans hb.symm) h
 | x::y::l,_,_=>simp
theorem up_in {n:List UInt8} (hn:pathL n=true) {p:List UInt8} (hp:p≠[]) (h:upL n=p):withinL n p=true/\n≠p:=by
 subst h
 refine⟨(up_path hn hp).2,fun e=>?_⟩
 have:=up_short (path_ne hn)
 rw [<- e] at this
 omega
theorem V.alone {D:Dk} (h:V D) {p:List UInt8} (hp:pathL p=true) (h0:kindD D p≠0) (h1:¬ 1<(inE D.names p).length):∀ e∈D.names,upL e.path≠p:=fun e he hu=>by
 rcases h.kind (path_ne hp) with ⟨h2,_⟩|⟨d,hd,hdp,_⟩
 ·exact h0 h2
 ·obtain⟨h3,h4⟩:=up_in (h.names.path e he) (path_ne hp) hu
  exact h1 (two_in (List.mem_filter.2 ⟨he,h3⟩) (List.mem_filter.2 ⟨hd,by rw [hdp];exact within_self hp⟩) (fun e2=>h4 (by rw [e2];exact hdp)))
theorem V.child {D:Dk} (h:V D) {p:List UInt8} (hp:pathL p=true) (h1:1<(inE D.names p).length):∃ e∈D.names,upL e.path=p:=by
 have hex:∃ e∈D.names,withinL e.path p=true/\e.path≠p:=by
  match hI:inE D.names p,h1 with
  | a::b::r,_ =>
   have ha:a∈inE D.names p:=by rw [hI];exact List.mem_cons_self ..
   have hb:b∈inE D.names p:=by rw [hI];exact List.mem_cons_of_mem _ (List.mem_cons_self ..)
   obtain⟨ha1,ha2⟩:=List.mem_filter.1 ha
   obtain⟨hb1,hb2⟩:=List.mem_filter.1 hb
   by_cases hap:a.path=p
   ·refine⟨b,hb1,hb2,fun e=>?_⟩
    have hs:Sorted (inE D.names p):=sorted_filter h.names.sorted _
    rw [hI] at hs
    have:=List.rel_of_pairwise_cons hs (a':=b) (List.mem_cons_self ..)
    have h2:ordL a.path b.path<0:=this
    rw [hap,e] at h2
    exact ord_irr _ h2
   ·exact⟨a,ha1,ha2,hap⟩
 have go:∀ (k:Nat) (e:Nd),e.path.length<=k->e∈D.names->withinL e.path p=true->e.path≠p->∃ e∈D.names,upL e.path=p:=by
  intro k
  induction k with
  | zero =>
   intro e hk he _ _
   exact absurd (List.length_eq_zero_iff.1 (by omega)) (path_ne (h.names.path e he))
  | succ k ih =>
   intro e hk he hw hne
   by_cases hu:upL e.path=p
   ·exact⟨e,he,hu⟩
   ·obtain⟨h2,h3,_⟩:=within_up hw (path_ne hp) hne
    rcases h.names.up e he with h4|⟨d,hd,h4,_⟩
    ·exact absurd h4 h2
    ·have:=up_short (path_ne (h.names.path e he))
     refine ih d (by rw [h4];omega) hd (by rw [h4];exact h3) (by rw [h4];exact hu)
 obtain⟨e,he,hw,hne⟩:=hex
 exact go _ e (Nat.le_refl _) he hw hne
theorem V.removed {D:Dk} (h:V D) {p:List UInt8} (he:removeE D p=0):V (changeD D [en p 0]):=by
 unfold removeE at he
 obtain⟨e1,he⟩:=first_cons he
 obtain⟨e2,he⟩:=first_cons he
 obtain⟨e3,he⟩:=first_cons he
 have h1:=when_zero e1 (by decide)
 have h2:=when_zero e2 (by decide)
 have h3:=when_zero e3 (by decide)
 simp only [Bool.not_eq_false',decide_eq_false_iff_not] at h1 h2 h3
 refine h.change ?_
 show G D.inos (putE D.names (en p 0))
 unfold putE
 rw [if_pos (show (en p 0).kind=0 from rfl)]
 exact h.names.del (path_ne h1) (h.alone h1 h2 h3)
theorem V.replaced {D:Dk} (h:V D) {p q:List UInt8} (he:replaceE D p q=0):V (changeD D [en p 0,en q (inoN D.names p)]):=by
 unfold replaceE at he
 obtain⟨e1,he⟩:=first_cons he
 obtain⟨e2,he⟩:=first_cons he
 obtain⟨e3,he⟩:=first_cons he
 obtain⟨e4,he⟩:=first_cons he
 obtain⟨e5,he⟩:=first_cons he
 have h1:=when_zero e1 (by decide)
 have h2:=when_zero e2 (by decide)
 have h3:=when_zero e3 (by decide)
 have h4:=when_zero e4 (by decide)
 have h5:=when_zero e5 (by decide)
 simp only [Bool.not_eq_false',Bool.or_eq_false_iff,decide_eq_false_iff_not] at h1 h2 h3 h4 h5
 obtain⟨hp,hq⟩:=h1
 refine h.change ?_
 rcases h.kind (path_ne hp) with ⟨h6,_⟩|⟨e,he,hep,hf,h6,h7,h8⟩
 ·exact absurd h6 h3
 obtain⟨k,h9,h10,h11⟩:=h.names.ino e he
 have hk:inoN D.names p=(k:Int):=by rw [h6,h9];rfl
 show G D.inos (putE (putE D.names (en p 0)) (en q (inoN D.names p)))
 have hd:putE D.names (en p 0)=delE D.names p:=by unfold putE;rw [if_pos (show (en p 0).kind=0 from rfl)];rfl
 rw [hd,hk]
 have hpd:∀ d∈D.names,d.path=p->(inoOf D.inos d.kind).kind≠2:=fun d hd2 hdp h12=>by
  have:d=e:=sorted_one h.names.sorted hd2 he (hdp.trans hep.symm)
  subst this
  rw [h12] at h7
  exact h4.1 h7
 refine (h.names.del (path_ne hp) (fun x hx hu=>?_)).put h10 h11 hq ?_ (fun d hd2 hdq h12=>?_) ?_
 ·rcases h.names.up x hx with h12|⟨d,hd2,h12,h13⟩
  ·rw [hu] at h12
   exact path_ne hp h12
  ·exact hpd d hd2 (h12.trans hu) h13
 ·rcases h.up hq h5 with h12|⟨d,hd2,h12,h13⟩
  ·exact .inl h12
  ·exact .inr ⟨d,mem_del.2 ⟨hd2,fun e2=>hpd d hd2 e2 h13⟩,h12,h13⟩
 ·have hd3:=(mem_del.1 hd2).1
  rcases h.kind (path_ne hq) with ⟨_,h13⟩|⟨x,hx,hxq,_,_,h13,_⟩
  ·exact h13 d hd3 hdq
  ·have:d=x:=sorted_one h.names.sorted hd3 hx (hdq.trans hxq.symm)
   subst this
   rw [h12] at h13
   exact h4.2 h13
 ·have h12:=put_len (delE D.names p) (en q (k:Int))
  have h13:=del_less hf
  have:=h.names.len
  omega
theorem V.write {D:Dk} (h:V D) (p dt:List UInt8) (md:Int):V (writeD D p dt md).1:=h.after _ fun _ hE=>hE.refuse fun h0=>hE.wrote h0
theorem V.remove {D:Dk} (h:V D) (p:List UInt8):V (removeD D p).1:=h.after _ fun _ hE=>hE.refuse fun h0=>hE.removed h0
theorem V.replace {D:Dk} (h:V D) (p q:List UInt8):V (replaceD D p q).1:=h.after _ fun _ hE=>hE.refuse fun h0=>hE.replaced h0
theorem V.sync {D:Dk} (h:V D) (p:List UInt8):V (syncD D p).1:=h.after _ fun _ hE=>hE.refuse fun _=>hE.setI p syncI fun e he _=>⟨rfl,(hE.names.okI hE.ino he).1,fun e=>by cases e⟩
theorem V.flush {D:Dk} (h:V D):V (flushD D).1:=h.after _ fun _ hE=>hE.settle
theorem V.get {D:Dk} (h:V D) (p:List UInt8):V (getD D p).1:=by
 have h1:(getD D p).1=(DP.after (stepD D ⟨cGet,p,[]⟩) fun E=>DP.refuse (missE E p) E E).1:=by
  unfold getD
  simp only
  split<;>rfl
 rw [h1]
 exact h.after _ fun _ hE=>hE.refuse fun _=>hE
def edE (D:Dk) (t:List Nd) (p:List UInt8) (k:Nat) (x:Nd):Nd:=en x.path (if withinL x.path p=true then ((D.inos.length+1+(inE (t.take k) p).length:Nat):Int) else inoN D.names x.path)
def edK (D:Dk) (t:List Nd) (p:List UInt8) (k:Nat):List Nd:=(t.take k).mapIdx fun i x=>edE D t p i x
theorem edK_succ {D:Dk} {t:List Nd} {p:List UInt8} {k:Nat} {x:Nd} (hx:t[k]?=some x):edK D t p (k+1)=edK D t p k++[edE D t p k x]:=by
 have hk:=(List.getElem?_eq_some_iff.1 hx).1
 unfold edK
 rw [List.take_add_one,hx,Option.toList_some,List.mapIdx_append]
 congr 1
 rw [List.mapIdx_cons,List.mapIdx_nil,List.length_take,Nat.zero_add,Nat.min_eq_left (show k<=t.length by omega)]
theorem edK_len {D:Dk} {t:List Nd} {p:List UInt8} {k:Nat} (hk:k<=t.length):(edK D t p k).length=k:=by
 unfold edK
 rw [List.length_mapIdx,List.length_take]
 omega
theorem edK_sorted {D:Dk} {t:List Nd} {p:List UInt8} (ht:Sorted t) (k:Nat):Sorted (edK D t p k):=by
 unfold Sorted edK
 rw [List.pairwise_iff_getElem]
 intro i j hi hj hij
 rw [List.getElem_mapIdx,List.getElem_mapIdx]
 have hl:((t.take k).mapIdx fun i x=>edE D t p i x).length=(t.take k).length:=by simp
 have hs:Sorted (t.take k):=ht.sublist (List.take_sublist k t)
 exact List.pairwise_iff_getElem.1 hs i j (by omega) (by omega) hij
theorem edK_mem {D:Dk} {t:List Nd} {p:List UInt8}:∀ (k:Nat),k<=t.length->∀ x,x∈edK D t p k↔x∈freshes D (inE (t.take k) p)∨∃ y∈t.take k,withinL y.path p=false/\x=en y.path (inoN D.names y.path)
 | 0,_,x=>by simp [edK,inE,freshes]
 | k+1,hk,x=>by
  obtain⟨y,hy⟩:∃ y,t[k]?=some y:=⟨t[k]'(by omega),List.getElem?_eq_getElem _⟩
  have ih:=edK_mem (D:=D) (t:=t) (p:=p) k (by omega) x
  have ht:t.take (k+1)=t.take k++[y]:=by rw [List.take_add_one,hy];rfl
  rw [edK_succ hy,List.mem_append,List.mem_singleton,ih,ht]
  cases hw:withinL y.path p with
  | true =>
   have h1:inE (t.take k++[y]) p=inE (t.take k) p++[y]:=by rw [<- ht];exact in_succ_yes hy hw
   have h2:edE D t p k y=freshE (freshAll D (inE (t.take k) p)) y:=by
    unfold edE freshE
    rw [if_pos hw,freshAll_len]
    congr 2
    omega
   rw [h1,freshes_snoc,List.mem_append,List.mem_singleton,h2]
   constructor
   ·rintro ((h|⟨z,hz,h3⟩)|h)
    ·exact .inl (.inl h)
    ·exact .inr ⟨z,List.mem_append_left _ hz,h3⟩
    ·exact .inl (.inr h)
   ·rintro ((h|h)|⟨z,hz,h3,h4⟩)
    ·exact .inl (.inl h)
    ·exact .inr h
    ·rcases List.mem_append.1 hz with hz|hz
     ·exact .inl (.inr ⟨z,hz,h3,h4⟩)
     ·rw [List.mem_singleton.1 hz,hw] at h3
      cases h3
  | false =>
   have h1:inE (t.take k++[y]) p=inE (t.take k) p:=by rw [<- ht];exact in_succ_no hy hw
   have h2:edE D t p k y=en y.path (inoN D.names y.path):=by
    unfold edE
    rw [if_neg (by rw [hw];exact Bool.false_ne_true)]
   rw [h1,h2]
   constructor
   ·rintro ((h|⟨z,hz,h3⟩)|h)
    ·exact .inl h
    ·exact .inr ⟨z,List.mem_append_left _ hz,h3⟩
    ·exact .inr ⟨y,List.mem_append_right _ (List.mem_singleton.2 rfl),hw,h⟩
   ·rintro (h|⟨z,hz,h3,h4⟩)
    ·exact .inl (.inl h)
    ·rcases List.mem_append.1 hz with hz|hz
     ·exact .inl (.inr ⟨z,hz,h3,h4⟩)
     ·rw [List.mem_singleton.1 hz] at h4
      exact .inr h4
theorem G.entry {I:List Ino} {l:List Nd} (h:G I l) {e:Nd} (he:e∈l):e=en e.path (inoN l e.path):=by
 obtain⟨k,h1,_,_⟩:=h.ino e he
 have h2:=find_of h.sorted he
 unfold inoN
 rw [h2,h1]
 rfl
theorem edK_names {D:Dk} (h:V D) {p:List UInt8} {v:List Nd} (h1:PutOk (treeD D) p v):sortK (edK D (outL (treeD D) p v) p (outL (treeD D) p v).length) (outL (treeD D) p v).length=withE D.names (outE D.names p++freshes D (inE (outL (treeD D) p v) p)):=by
 have ht:=(out_tree h1).sorted
 have hmo:=mem_out (treeD D) p v
 have hwi:∀ m∈v,withinL (placeN p m).path p=true:=fun m hm=>place_within (path_ne h1.path) (h1.all m hm)
 obtain⟨t,htt⟩:∃ t,outL (treeD D) p v=t:=⟨_,rfl⟩
 rw [htt] at ht hmo ⊢
 have hl:=edK_len (D:=D) (t:=t) (p:=p) (Nat.le_refl t.length)
 have hs:=sortK_self (edK_sorted (D:=D) (p:=p) ht t.length)
 rw [hl] at hs
 rw [hs]
 refine sorted_ext (edK_sorted ht _) (sorted_with h.names.sorted _) fun x=>?_
 rw [edK_mem _ (Nat.le_refl _),mem_edit ht,List.take_length]
 constructor
 ·rintro (hx|⟨y,hy,hw,rfl⟩)
  ·exact .inl hx
  ·refine .inr ⟨?_,hw⟩
   rcases (hmo y).1 hy with ⟨h5,_⟩|⟨m,hm,rfl⟩
   ·obtain⟨e,he,rfl⟩:=List.mem_map.1 h5
    have:=h.names.entry he
    show en e.path (inoN D.names e.path)∈_
    rw [<- this]
    exact he
   ·rw [hwi m hm] at hw
    cases hw
 ·rintro (hx|⟨hx,hw⟩)
  ·exact .inl hx
  ·exact .inr ⟨nodeOf D.inos x,(hmo _).2 (.inl ⟨List.mem_map.2 ⟨x,hx,rfl⟩,hw⟩),hw,h.names.entry hx⟩
end RK
end Go.Proofs.YtmohjalanhnhbaaGreatDoor
end
