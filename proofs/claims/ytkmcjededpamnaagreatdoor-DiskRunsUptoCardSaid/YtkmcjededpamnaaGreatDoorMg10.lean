import Derived.Test.YtkmcjededpamnaaGreatDoorMg9
import Derived.Test.YtkmcjededpamnaaGreatDoorMg8
import Derived.Test.YtkmcjededpamnaaGreatDoorMg3
import Derived.Test.YtkmcjededpamnaaGreatDoorMg6
import Derived.Test.YtkmcjededpamnaaGreatDoorMg7
set_option linter.all false
set_option maxRecDepth 100000
set_option maxHeartbeats 0
namespace Go.Proofs.YtkmcjededpamnaaGreatDoor
open List(length_append getElem?_eq_getElem set_cons_zero set_cons_succ setIfInBounds_toArray length_take length_map take_add_one drop_succ_cons drop_zero map_append length_drop take_length take_succ_cons length_filter_le take_zero)
section
open Go.RowKit Go.Lib Go.BigFrame
namespace DG
open OM TP TM DP DM TG TR FP
def awD1:Dk:=bootD (newD []) [⟨2,3,1,0⟩] []
def awD2:Dk:=(writeD awD1 [97] [120,121] 420).1
def awD3:Dk:=(syncD awD2 [97]).1
def awD4:Dk:=(flushD awD3).1
theorem aw_write:(writeD awD1 [97] [120,121] 420).2=0:=by decide +kernel
theorem aw_sync:(syncD awD2 [97]).2=0:=by decide +kernel
theorem aw_flush:(flushD awD3).2=75:=by decide +kernel
theorem aw_off:awD4.off=true:=by decide +kernel
theorem aw_tree:(treeD awD4).map (fun n=>(n.path,n.kind,n.data,n.mode))=[([97],1,[120,121],420)]:=by decide +kernel
end DG
end
section
open Go.RowKit Go.Lib Go.BigFrame
namespace DG
open OM TP TM DP DM TG TR FP
theorem new_names(t:List Nd):(newD t).names=t.mapIdx (fun i n=>en n.path ((1+i:Nat):Int)):=by
 show freshes emptyD t=_;unfold freshes;congr 1
end DG
end
section
open Go.RowKit Go.Lib Go.BigFrame
namespace DG
open OM TP TM DP DM TG TR FP
theorem step_app_eq{P:Program}{w:World}{ops:Array Oper}{o:Oper}{a:Act}{K:Act->World->Prop}{Q:Exit->Act->World->Prop}{E:Prop}(hgd:o.guard=none)(s x:Operand)(t t2:TypeId)
  (ho:o.op=.call { callee:=.builtin .append,args:=#[s,x],argTypes:=#[t,t2] }) (u v:Value) (hs:a.eval s=u) (hx:a.eval x=v) {v':Value} {w':World}
  (hr:(Builtin.append_ #[t,t2] o.type #[u,v]).run P w=.ok v' w') (h:K (a.put o.dst v') w'):if Region.wanted o (yielded ops a.tmps)=true then Oper.wp P o a w K Q else E:=by
 have hw:Region.wanted o (yielded ops a.tmps)=true:=by simp[Region.wanted,hgd]
 rw[if_pos hw];unfold Oper.wp execOp;simp only[ho,resolve,invoke,builtin,Sem.run_bind,Sem.run_pure,Result.andThen_ok,List.map_toArray,List.map_cons,List.map_nil,hs,hx,hr];exact h
structure NewAt(W:World)(P:Nat)(t:List Nd)(k:Nat)(v:Value)(adr:Int->Nat):Prop where
 row:W.heap[P]?=some (.cells #[v,.slice none 0 0,.slice none 0 0,.bool true,.int .i64 (k:Nat),.int .i64 (0:Nat),.slice none 0 0,.slice none 0 0,.slice none 0 0] 122 (0,0))
 own:W.ownsRow (P+1) 125 2 v k (ensC adr (freshes emptyD (t.take k)))
 ino:∀(j:Nat) (x:Nd),j<k->t[j]?=some x->P<adr ((j+1:Nat):Int)/\InoAt W (adr ((j+1:Nat):Int)) ((j+1:Nat):Int) (freshI emptyD x)
 inj:∀ i j:Nat,i<k->j<k->adr ((i+1:Nat):Int)=adr ((j+1:Nat):Int)->i=j
theorem NewAt.below{W W':World}{P k:Nat}{t:List Nd}{v:Value}{adr:Int->Nat}(h:NewAt W P t k v adr)(hb:Below W.heap.size W W'):NewAt W' P t k v adr :=
 ⟨(hb.block P (Array.getElem?_eq_some_iff.1 h.row).1).trans h.row,owns_below h.own hb,fun j x hj hx=>⟨(h.ino j x hj hx).1,inoAt_below (h.ino j x hj hx).2 hb⟩,h.inj⟩
theorem fresh_kind{t:List Nd}{k:Nat}:∀ e∈freshes emptyD (t.take k),∃ j:Nat,j<k/\e.kind=((j+1:Nat):Int):=fun e he=>by
 unfold freshes at he;obtain⟨i,hi,rfl⟩:=List.mem_mapIdx.1 he;refine⟨i,?_,?_⟩
 ·have:=hi;rw[length_take]at this;omega
 ·show(((0:Nat)+1+i:Nat):Int)=_;omega
theorem fresh_more{t:List Nd}{k:Nat}{x:Nd}(hx:t[k]?=some x):freshes emptyD (t.take (k+1))=freshes emptyD (t.take k)++[en x.path ((k+1:Nat):Int)]:=by
 have hk:=(List.getElem?_eq_some_iff.1 hx).1;unfold freshes;rw[take_add_one,hx,Option.toList_some,List.mapIdx_concat];have h2:(t.take k).length=k:=by rw[length_take];omega
 have e:((emptyD.inos.length+1+k:Nat):Int)=((k+1:Nat):Int):=by
  show(((0:Nat)+1+k:Nat):Int)=_;omega
 rw[h2,e]
theorem new_step{W0 W2:World}{P k:Nat}{t:List Nd}{x:Nd}{v:Value}{adr:Int->Nat}{X:ByteArray}(h:NewAt W0 P t k v adr)(hx:t[k]?=some x)(hk:k<1000)(hX:txt x.path=.string X)
  (hf:FreshW W0 P x v (.slice none 0 0) (.slice none 0 0) (.slice none 0 0) (.slice none 0 0) (.slice none 0 0) true k 0 W2) :
  ∃ a' c' W3,(Builtin.append_ #[119,119] 119 #[v,.slice (some ⟨W2.heap.size,0,none⟩) 1 1]).run Tryz.prog (W2.alloc (.cells #[.string X,.pointer (some ⟨W0.heap.size+2,0,none⟩)] 125))=.ok (.slice a' (k+1:Nat) c') W3 /\
   W3.heap[P]?=some (.cells #[v,.slice none 0 0,.slice none 0 0,.bool true,.int .i64 ((k+1:Nat):Int),.int .i64 (0:Nat),.slice none 0 0,.slice none 0 0,.slice none 0 0] 122 (0,0)) /\
   Out (fun j=>P<=j/\(j=P\/v.ownBlock=some j)) W0 W3/\NewAt (W3.setCell ⟨P,0,none⟩ (.slice a' (k+1:Nat) c')) P t (k+1) (.slice a' (k+1:Nat) c') (updA adr (k+1) (W0.heap.size+2)):=by
 obtain⟨i0,bl,bz,ba,bH⟩:=info_parts infoE;have cH:∀ g,v.ownBlock=some g->g≠P:=fun g hg=>by have:=(h.own.lt g hg).1;omega
 have o2:=(hf.out.owns h.own cH).alloc (.cells #[.string X,.pointer (some ⟨W0.heap.size+2,0,none⟩)] 125)
 have a0:∀ e∈freshes emptyD (t.take k),updA adr (k+1) (W0.heap.size+2) e.kind=adr e.kind:=fun e he=>by
  obtain⟨j,hj,cC⟩:=fresh_kind e he;exact updA_old _ _ _ (by rw[cC];omega)
 rw[<- ens_adr a0]at o2
 have hp:ptrV (updA adr (k+1) (W0.heap.size+2)) ((k+1:Nat):Int)=.pointer (some ⟨W0.heap.size+2,0,none⟩):=by
  rw[ptr_pos _ (by omega),updA_new]
 have aY:=two_new W2 W2.heap.size rfl (updA adr (k+1) (W0.heap.size+2)) (en x.path ((k+1:Nat):Int)) (.string X) (.pointer (some ⟨W0.heap.size+2,0,none⟩)) hX hp 125;have dw:P<W0.heap.size:=(Array.getElem?_eq_some_iff.1 h.row).1;have dH:=hf.out.size
 obtain⟨v',W3,hr,ho,hg,_⟩:=run_append_own (P:=Tryz.prog) (w:=W2.alloc (.cells #[.string X,.pointer (some ⟨W0.heap.size+2,0,none⟩)] 125)) (P+1) 119 119 125 i0 (.agg #[.string ⟨#[]⟩,.pointer none]) 2 24 (by kernel_rfl) bl bz ba bH rfl (by decide) v k _ o2 ⟨W2.heap.size,0,none⟩ 1 1
  (enCells (updA adr (k+1) (W0.heap.size+2)) (en x.path ((k+1:Nat):Int))) rfl aY (en_one _ _) (by unfold maxLen;omega) (by omega) (by simp;omega)
 obtain⟨a',c',cv,_⟩:=owns_view ho;subst cv;have u3:Out (fun j=>v.ownBlock=some j) W2 W3:=((Out.refl _ W2).alloc _).grown hg (fun j hj _=>hj);have aI:W3.heap[P]?=some (.cells #[v,.slice none 0 0,.slice none 0 0,.bool true,.int .i64 ((k+1:Nat):Int),.int .i64 (0:Nat),.slice none 0 0,.slice none 0 0,.slice none 0 0] 122 (0,0)):=u3.row hf.row (fun e=>cH _ e rfl)
 have dx:∀ g,v.ownBlock=some g->IsT W2 g 125:=fun g hg=>by
  obtain⟨c,fz,h1⟩:=own_type h.own g hg;exact⟨c,fz,hf.out.row h1 (cH g hg)⟩
 have bG:∀(g:Nat) (z:Int) (i:Ino),P<g->InoAt W2 g z i->InoAt (W3.setCell ⟨P,0,none⟩ (.slice a' (k+1:Nat) c')) g z i:=fun g z i hg hi=>by
  unfold InoAt at hi ⊢;rw[set_other _ P 0 g _ (by omega)];refine u3.row hi (fun e=>?_);exact(ino_type hi).ne (dx g e) (by decide) rfl
 refine⟨a',c',W3,hr,aI,?_,⟨row_set (j:=0) aI _,?_,fun j y hj hy=>?_,fun i j hi hj he=>?_⟩⟩
 ·refine(hf.out.mono (T:=fun j=>P<=j/\(j=P\/v.ownBlock=some j)) (fun j _ e=>?_)).then u3 (fun j hj e=>?_)
  ·subst e;exact⟨Nat.le_refl _,.inl rfl⟩
  ·exact⟨by have:=(h.own.lt j e).1;omega,.inr e⟩
 ·rw[fresh_more hx,ens_snoc];exact own_same ho fun g hg=>set_other _ P 0 g _ (by have:=(ho.lt g hg).1;omega)
 ·by_cases e:j=k
  ·subst e;rw[hx]at hy;injection hy with hy;subst hy;rw[updA_new];exact⟨by omega,bG _ _ _ (by omega) hf.ino⟩
  ·have cC:j<k:=by omega
   obtain⟨h1,h2⟩:=h.ino j y cC hy;rw[updA_old _ _ _ (by omega)];refine⟨h1,bG _ _ _ h1 ?_⟩;unfold InoAt at h2 ⊢;exact hf.out.row h2 (by omega)
 ·have aq:∀ j,j<k->adr ((j+1:Nat):Int)<W0.heap.size:=fun j hj=>by
   have d1:j<t.length:=by have:=(List.getElem?_eq_some_iff.1 hx).1;omega
   obtain⟨_,h2⟩:=h.ino j t[j] hj (getElem?_eq_getElem d1);exact(Array.getElem?_eq_some_iff.1 h2).1
  by_cases e1:i=k
  ·by_cases e2:j=k
   ·omega
   ·subst e1;rw[updA_new,updA_old _ _ _ (by omega)]at he;have:=aq j (by omega);omega
  ·by_cases e2:j=k
   ·subst e2;rw[updA_new,updA_old _ _ _ (by omega)]at he;have:=aq i (by omega);omega
   ·rw[updA_old _ _ _ (by omega),updA_old _ _ _ (by omega)]at he;exact h.inj i j (by omega) (by omega) he
theorem freshes_all(t:List Nd):freshes emptyD t=(newD t).names:=rfl
theorem new_kind{t:List Nd}:∀ e∈(newD t).names,∃(j:Nat) (x:Nd),t[j]?=some x/\e=en x.path ((j+1:Nat):Int):=fun e he=>by
 rw[new_names]at he;obtain⟨i,hi,rfl⟩:=List.mem_mapIdx.1 he;exact⟨i,t[i],getElem?_eq_getElem hi,by rw[show((1+i:Nat):Int)=((i+1:Nat):Int) by omega]⟩
theorem new_ino{t:List Nd}{j:Nat}{x:Nd}(hx:t[j]?=some x):inoOf (newD t).inos ((j+1:Nat):Int)=freshI emptyD x:=by
 unfold inoOf;rw[show(((j+1:Nat):Int).toNat-1)=j by omega,List.getD_eq_getElem?_getD];show((t.map (freshI emptyD))[j]?).getD inoZ=_;rw[List.getElem?_map,hx];rfl
theorem new_row{t:List Nd}(h:Tree t):Row (newD t).inos.length (newD t).names:=by
 have ak:(newD t).inos.length=t.length:=by show(t.map _).length=_;simp
 have hl:(newD t).names.length=t.length:=by rw[new_names];simp
 refine⟨?_,fun e he=>?_,by rw[hl];exact h.len,fun e he=>?_⟩
 ·unfold Sorted;rw[List.pairwise_iff_getElem];intro i j hi hj dE;have h1:=List.pairwise_iff_getElem.1 h.sorted i j (by omega) (by omega) dE
  have e1:∀(k:Nat) (hk:k<(newD t).names.length) (aQ:k<t.length),((newD t).names[k]).path=t[k].path:=fun k hk aQ=>by
   simp only[new_names,List.getElem_mapIdx];rfl
  unfold lt at h1 ⊢;rw[e1 i hi (by omega),e1 j hj (by omega)];exact h1
 ·obtain⟨j,x,hx,rfl⟩:=new_kind e he;exact h.path x (List.mem_of_getElem? hx)
 ·obtain⟨j,x,hx,rfl⟩:=new_kind e he;have:=(List.getElem?_eq_some_iff.1 hx).1;exact⟨j+1,rfl,by omega,by omega⟩
theorem new_fit{t:List Nd}(h:Tree t):Fit (newD t):=by
 refine⟨new_row h,new_row h,(fun l hl=>by cases hl),fun i hi=>?_⟩;obtain⟨n,hn,rfl⟩:=List.mem_map.1 (show i∈t.map (freshI emptyD) from hi);exact right_data (h.right n hn)
theorem settle_row(w:World)(p:Nat)(adr:Int->Nat)(ns:List Nd)(vn vs vc vf ve vt:Value)(bo:Bool)(lz cz:Nat)(hr:w.heap[p]?=some (.cells #[vn,vs,vc,.bool bo,.int .i64 (lz:Nat),.int .i64 (cz:Nat),vf,ve,vt] 122 (0,0)))(hv:OwnE w adr vn ns)(ak:ns.length<=1000) :
  Calls Tryz.prog 55 #[.pointer (some ⟨p,0,none⟩)] w fun r w'=>r=.returned (.tuple #[])/\∃ v1,w'.heap[p]?=some (.cells #[vn,v1,.slice none 0 0,.bool bo,.int .i64 (lz:Nat),.int .i64 (cz:Nat),vf,ve,vt] 122 (0,0))/\OwnE w' adr v1 ns/\(∀ g,v1.ownBlock=some g->w.heap.size<=g)/\Out (fun k=>k=p) w w':=by
 have bi:=(Array.getElem?_eq_some_iff.1 hr).1;obtain⟨ao,cap,av,al,aD,bV,cF⟩:=layE_own hv
 have CC:Hid (Calls Tryz.prog 116 #[.slice ao ns.length cap] w (ClPost 125 2 ns.length (ensC adr ns) w)):=hid (clE_any ao ns.length cap (ensC adr ns) w (fun ad ha=>by subst ha;exact layE_cells al) (ens_len _ _) (ens_one _ _) (fun ha=>by
  have:=bV ha
  omega) (by omega))
 obtain⟨n,hn⟩:∃ n,ns.length=n:=⟨_,rfl⟩;have HN:=hid hn;rw[av]at hr;rw[av];rw[hn]at CC hr ⊢;have HR:=hid hr;obtain⟨c0,c1,c2,-,-,-,-,-,-,cf⟩:=row9 hr;clear hv av al aD bV cF ak hn hr;go_enter Tryz.func55,Tryz.ntmps55;repeat (first|go_skip|go_guarded|go_step|go_upon)
 refine CC.out.mono ?_;rintro r w1 ⟨v1,rfl,cu,ac⟩;simp only[];obtain⟨a1,k1,dJ,dv⟩:=owns_view cu;clear dv;subst dJ;have cr:=hid cu;have bJ:=hid ac;have R1:Hid (w1.heap[p]?=some (.cells #[.slice ao n cap,vs,vc,.bool bo,.int .i64 (lz:Nat),.int .i64 (cz:Nat),vf,ve,vt] 122 (0,0))):=hid ((ac.block p bi).trans HR.out);have dR:p<w1.heap.size:=Nat.lt_of_lt_of_le bi ac.size;obtain⟨c0,c1,c2,-,-,-,-,-,-,cf⟩:=row9 R1.out;clear cu ac;repeat (first|go_skip|go_guarded|go_step|go_upon)
 go_end0
 have aI:=row_set (j:=2) (row_set (j:=1) R1.out (.slice a1 n k1)) (.slice none 0 0);have ca:∀ k,k≠p->((w1.setCell ⟨p,1,none⟩ (.slice a1 n k1)).setCell ⟨p,2,none⟩ (.slice none 0 0)).heap[k]?=w1.heap[k]?:=fun k hk=>(set_other _ p 2 k _ hk).trans (set_other _ p 1 k _ hk);refine⟨rfl,.slice a1 n k1,aI,?_,fun g hg=>(cr.out.lt g hg).1,?_⟩
 ·refine own_same (owns_base (base:=w.heap.size) ?_ 0 (Nat.zero_le _)) (fun g hg=>ca g (fun e=>?_))
  ·rw[HN.out];exact cr.out
  ·have:=(cr.out.lt g hg).1;omega
 ·have u0:Out (fun k=>k=p) w w1:=(Out.of_below bJ.out).mono (fun k hk hB=>absurd hB (by omega));exact(u0.setCell (p:=⟨p,1,none⟩) (fun _=>rfl) _).setCell (p:=⟨p,2,none⟩) (fun _=>rfl) _
theorem new_disk{W W':World}{P:Nat}{t:List Nd}{v v1:Value}{adr:Int->Nat}(ht:Tree t)(h:NewAt W P t t.length v adr)
  (hr:W'.heap[P]?=some (.cells #[v,v1,.slice none 0 0,.bool true,.int .i64 (t.length:Nat),.int .i64 (0:Nat),.slice none 0 0,.slice none 0 0,.slice none 0 0] 122 (0,0))) (ho:OwnE W' adr v1 (newD t).names) (hg:∀ g,v1.ownBlock=some g->W.heap.size<=g) (hu:Out (fun k=>k=P) W W') :
  Disk (fun k=>P<k/\k<W'.heap.size) W' P (newD t):=by
 have dw:P<W.heap.size:=(Array.getElem?_eq_some_iff.1 h.row).1;have hs:=hu.size;have ak:(newD t).inos.length=t.length:=by show(t.map _).length=_;simp
 have a7:=h.own;rw[take_length,freshes_all]at a7;have dj:(newD t).names.length=t.length:=by rw[new_names];simp
 have ax:OwnE W' adr v (newD t).names:=by
  unfold OwnE;rw[dj];exact owns_base (hu.owns a7 (fun g hg=>by have:=(a7.lt g hg).1;omega)) 0 (Nat.zero_le _)
 have ap:∀ e∈[]++liveL (newD t),∃(j:Nat) (x:Nd),t[j]?=some x/\e=en x.path ((j+1:Nat):Int):=fun e he=>by
  refine new_kind e ?_;have cW:e∈(newD t).names++((newD t).names++[]):=he;simp only[List.append_nil,List.mem_append,or_self]at cW;exact cW
 have a0:∀(j:Nat) (x:Nd),t[j]?=some x->P<adr ((j+1:Nat):Int)/\InoAt W' (adr ((j+1:Nat):Int)) ((j+1:Nat):Int) (freshI emptyD x):=fun j x hx=>by
  obtain⟨h1,h2⟩:=h.ino j x (List.getElem?_eq_some_iff.1 hx).1 hx;refine⟨h1,?_⟩;unfold InoAt at h2 ⊢;exact hu.row h2 (by omega)
 refine⟨adr,⟨v,v1,.slice none 0 0,.slice none 0 0,.slice none 0 0,.slice none 0 0,[],[]⟩,?_,?_,fun k hk=>hk.2,fun hk=>by omega,new_fit ht⟩
 ·unfold diskC;rw[ak];exact hr
 ·exact {
   names:=ax
   nin:=fun g hg=>by
    have:=(a7.lt g hg).1;have:=own_lt ax g hg;exact⟨by omega,this⟩
   safe:=ho
   sin:=fun g hg2=>by
    have:=hg g hg2;exact⟨by omega,own_lt ho g hg2⟩
   apart:=fun g hg1 hg2=>by
    have h1:=(a7.lt g hg1).2;have h2:=hg g hg2;omega
   ch:=World.ownsRow_nil _ _ _ _
   chin:=fun g hg=>by cases hg
   each:=fun e he=>by cases he
   crow:=fun e he=>by cases he
   later:=rfl
   ends:=rfl
   lens:=fun j c hc=>by cases hc
   inos:=fun e he h0=>by
    obtain⟨j,x,hx,rfl⟩:=ap e he;show InoAt W' (adr ((j+1:Nat):Int)) ((j+1:Nat):Int) (inoOf (newD t).inos ((j+1:Nat):Int));rw[new_ino hx];exact(a0 j x hx).2
   iin:=fun e he h0=>by
    obtain⟨j,x,hx,rfl⟩:=ap e he;exact⟨(a0 j x hx).1,(Array.getElem?_eq_some_iff.1 (a0 j x hx).2).1⟩
   inj:=fun e he f hf h0 h1 h2=>by
    obtain⟨i,x,hx,rfl⟩:=ap e he;obtain⟨j,y,hy,rfl⟩:=ap f hf;have:=h.inj i j (List.getElem?_eq_some_iff.1 hx).1 (List.getElem?_eq_some_iff.1 hy).1 h2;subst this;rfl
   fates:=World.ownsRow_nil _ _ _ _
   fin:=fun g hg=>by cases hg
   edits:=World.ownsRow_nil _ _ _ _
   ein:=fun g hg=>by cases hg
   elen:=rfl
   vals:=fun j e v he hv=>by cases he
   trace:=World.ownsRow_nil _ _ _ _
   tin:=fun g hg=>by cases hg }
end DG
end
section
open Go.RowKit Go.Lib Go.BigFrame
namespace DG
open OM TP TM DP DM TG TR FP
def NewPost(t:List Nd)(w:World)(r:Ending)(w':World):Prop :=
 (treeB t=true->∃ S P,r=.returned (.tuple #[.pointer (some ⟨P,0,none⟩),.int .i64 0])/\w.heap.size<=P/\(∀ k,S k->w.heap.size<=k)/\Disk S w' P (newD t))/\(treeB t=false->r=.returned (.tuple #[.pointer none,.int .i64 60]))/\Below w.heap.size w w'
def NewInv(w1:World)(P n:Nat)(t:List Nd)(s17:Value)(wr:World):Prop :=
 ∃(k:Nat) (v:Value) (adr:Int->Nat),s17=.int .i64 k/\k<=n/\NewAt wr P t k v adr/\Below P w1 wr
theorem dnew_yes(ao:Option Addr)(cap:Nat)(t:List Nd)(w:World)(he:NF.Env w)(hw:TW.Wide w ao cap t)(ht:Tree t) :
  Calls Tryz.prog 10 #[.slice ao t.length cap] w fun r w'=>(∃ S P,r=.returned (.tuple #[.pointer (some ⟨P,0,none⟩),.int .i64 0])/\w.heap.size<=P/\(∀ k,S k->w.heap.size<=k)/\Disk S w' P (newD t))/\Below w.heap.size w w':=by
 have CC:=hid (TW.Wide.check he hw);rw[show(checkG t:Nat)=0 from check_yes ((tree_iff t).2 ht)]at CC;have cg:=hid hw.lay;have HT:=hid ht;have ak:=ht.len;obtain⟨n,hn⟩:∃ n,t.length=n:=⟨_,rfl⟩;have HN:=hid hn;rw[hn]at CC ak ⊢;clear he hw ht hn;go_enter Tryz.func10,Tryz.ntmps10;repeat (first|go_skip|go_guarded|go_step|go_upon)
 refine CC.out.mono ?_;rintro r w1 ⟨rfl,ac⟩;simp only[];have B1:=hid ac;clear ac;rw[show(((0:Nat):Int))=0 from rfl];repeat (first|go_skip|go_guarded|go_step|go_upon)
 go_loopw [17] (fun s17 wr=>NewInv w1 w1.heap.size n t s17 wr) (fun s17 _=>n-(RowKit.intOf s17).toNat)
 case atStart =>
  refine⟨0,.slice none 0 0,fun _=>0,rfl,Nat.zero_le _,⟨heap_alloc_new w1 _,World.ownsRow_nil _ _ _ _,fun j x hj=>absurd hj (by omega),fun i j hi=>absurd hi (by omega)⟩,(Below.refl _ _).alloc (Nat.le_refl _) _⟩
 case round =>
  obtain⟨k,v,adr,rfl,hk,aS,bS⟩:=hrel;have cS:=hid bS;by_cases aq:k<n
  ·have br:(k:Int)<n:=by omega
   obtain⟨g,o,rfl,hg,hc⟩:=cg.out (by rw[HN.out];omega);obtain⟨x,hx⟩:∃ x,t[k]?=some x:=⟨t[k]'(by rw[HN.out];exact aq),getElem?_eq_getElem _⟩;have d9:g<w1.heap.size:=Nat.lt_of_lt_of_le hg B1.out.size;obtain⟨e0,e1,e2,e3⟩:=((hc k x hx).below hg B1.out).below (W':=wr) d9 bS;obtain⟨X,hX,_⟩:=txt_of x.path;obtain⟨Y,hY,_⟩:=txt_of x.data;rw[hX]at e0;rw[hY]at e2;have RV:=heap_alloc_new wr (.cells #[.string X,.int .i64 x.kind,.string Y,.int .i64 x.mode] 45);have bW:Below wr.heap.size wr (wr.alloc (.cells #[.string X,.int .i64 x.kind,.string Y,.int .i64 x.mode] 45)):=(Below.refl _ _).alloc (Nat.le_refl _) _;obtain⟨kd,bR⟩:∃ z,x.kind=z:=⟨_,rfl⟩;obtain⟨md,bZ⟩:∃ z,x.mode=z:=⟨_,rfl⟩;rw[bR,bZ]at bW RV;rw[bR]at e1;rw[bZ]at e3;repeat (first|go_skip|go_guarded|go_step|go_upon)
   obtain⟨W,hW⟩:∃ W,wr.alloc (.cells #[.string X,.int .i64 kd,.string Y,.int .i64 md] 45)=W:=⟨_,rfl⟩;rw[hW]at RV bW ⊢;have a3:=hid (aS.below bW);have dU:w1.heap.size<W.heap.size:=(Array.getElem?_eq_some_iff.1 a3.out.row).1;have dV:wr.heap.size<W.heap.size:=(Array.getElem?_eq_some_iff.1 RV).1;have dW:w1.heap.size<wr.heap.size:=(Array.getElem?_eq_some_iff.1 aS.row).1;obtain⟨s0,-,-,-,-,-,-,-,-,sf⟩:=row9 a3.out.row;obtain⟨t0,t1,t2,t3,tf⟩:=row4 RV
   have CF:Hid (Calls Tryz.prog 54 #[.pointer (some ⟨w1.heap.size,0,none⟩),.agg #[.string X,.int .i64 kd,.string Y,.int .i64 md]] W.drew fun r w'=>r=.returned (.agg #[.string X,.pointer (some ⟨W.heap.size+2,0,none⟩)])/\FreshW W.drew w1.heap.size x v (.slice none 0 0) (.slice none 0 0) (.slice none 0 0) (.slice none 0 0) (.slice none 0 0) true k 0 w'):=hid (by
    have:=fresh_walk W.drew w1.heap.size x v (.slice none 0 0) (.slice none 0 0) (.slice none 0 0) (.slice none 0 0) (.slice none 0 0) true k 0 a3.out.row (by omega);unfold ndVal at this;rw[hX,hY,bR,bZ]at this
    exact this)
   have bK:Hid (∀ W2,FreshW W.drew w1.heap.size x v (.slice none 0 0) (.slice none 0 0) (.slice none 0 0) (.slice none 0 0) (.slice none 0 0) true k 0 W2->_):=hid (fun W2 hf=>new_step (W0:=W.drew) (W2:=W2) (a3.out.below ⟨rfl,rfl,rfl,Nat.le_refl _,fun _ _=>rfl⟩) hx (by omega) hX hf);clear aS bS e0 e1 e2 e3 hc hX hY hx bR bZ;refine wp_region_noPanic ?_;with_reducible refine QT.region_hold (S:=fun w'=>w'.cell? ⟨w1.heap.size,0,none⟩=some v/\w'.cell? ⟨wr.heap.size,0,none⟩=some (.string X)/\w'.cell? ⟨wr.heap.size,1,none⟩=some (.int .i64 kd)/\w'.cell? ⟨wr.heap.size,2,none⟩=some (.string Y)/\w'.cell? ⟨wr.heap.size,3,none⟩=some (.int .i64 md)) 7 10 (by kernel_rfl) (by kernel_rfl) ?_ ?_ ?_
   ·exact fun _ _ _ _ _ h=>h
   ·exact⟨s0,t0,t1,t2,t3⟩
   intro _;simp only[take_succ_cons,take_zero,drop_succ_cons,drop_zero];iterate 7 (refine QT.wpTake_cons _ (by rfl) (by intro w' ct;obtain⟨y0,y1,y2,y3,y4⟩:=ct;go_simp;first|done|rfl) ?_;simp only[Act.put,setIfInBounds_toArray,set_cons_zero,set_cons_succ])
   refine QT.wpTake_nil ?_;intro K' hK;rw[if_pos (by rfl)];go_simp;refine CF.out.mono ?_;rintro r w2 ⟨rfl,hf⟩;simp only[];obtain⟨a',c',W3,a5,aN,aU,bI⟩:=bK.out w2 hf;obtain⟨z0,-,-,-,-,-,-,-,-,-⟩:=row9 hf.row;have dH:W.heap.size<=w2.heap.size:=hf.out.size;have cX:w2.heap[wr.heap.size]?=_:=hf.out.row (w:=W.drew) RV (by omega);obtain⟨u0,u1,u2,u3,-⟩:=row4 cX
   have bt:W3.heap[wr.heap.size]?=_:=aU.row (w:=W.drew) RV (fun h=>by
    rcases h.2 with h2|h2
    ·omega
    ·have h5:=(own_type a3.out.own _ h2).ne ⟨_,_,RV⟩ (by decide)
     exact h5 rfl)
   obtain⟨x0,x1,x2,x3,-⟩:=row4 bt;obtain⟨q0,-,-,-,-,-,-,-,-,qf⟩:=row9 aN;refine hK.out _ _ ⟨z0,u0,u1,u2,u3⟩ ?_;clear hK K';try simp only[Act.put,setIfInBounds_toArray,set_cons_zero,set_cons_succ]
   intro K' hK;rw[if_pos (by rfl)];go_simp;have b2:Below w2.heap.size w2 (w2.alloc (.cells #[.string X,.pointer (some ⟨W.heap.size+2,0,none⟩)] 125)):=(Below.refl _ _).alloc (Nat.le_refl _) _;refine hK.out _ _ ⟨(b2.cell (p:=⟨w1.heap.size,0,none⟩) (by show w1.heap.size<_;omega)).trans z0,(b2.cell (p:=⟨wr.heap.size,0,none⟩) (by show wr.heap.size<_;omega)).trans u0,(b2.cell (p:=⟨wr.heap.size,1,none⟩) (by show wr.heap.size<_;omega)).trans u1,(b2.cell (p:=⟨wr.heap.size,2,none⟩) (by show wr.heap.size<_;omega)).trans u2,(b2.cell (p:=⟨wr.heap.size,3,none⟩) (by show wr.heap.size<_;omega)).trans u3⟩ ?_;clear hK K';try simp only[Act.put,setIfInBounds_toArray,set_cons_zero,set_cons_succ]
   intro K' hK;refine step_app_eq rfl (.tmp 25) (.tmp 29) 119 119 rfl v (.slice (some ⟨w2.heap.size,0,none⟩) 1 1) rfl rfl a5 ?_;refine hK.out _ _ ⟨q0,x0,x1,x2,x3⟩ ?_;clear hK K';refine QT.wpDo_nil ?_;try simp only[Act.put,setIfInBounds_toArray,set_cons_zero,set_cons_succ]
   have bp:Hid (Below w1.heap.size w1 (W3.setCell ⟨w1.heap.size,0,none⟩ (.slice a' (k+1:Nat) c'))):=hid (by
    have u:=(((Out.of_below cS.out).thenBelow bW).drew.then aU (fun j _ h=>h.1)).setCell (p:=⟨w1.heap.size,0,none⟩) (fun _=>Nat.le_refl _) (.slice a' (k+1:Nat) c')
    exact u.below (fun j hj _ h=>by omega) (Nat.le_refl _))
   have cp:=hid bI;clear bI aU aN a5 RV cX bt bW hf;repeat (first|go_skip|go_guarded|go_step|go_upon)
   refine NoPanic.normal ?_;repeat (first|go_skip|go_guarded|go_step|go_upon)
   exact⟨⟨k+1,_,_,by go_num,by omega,cp.out,bp.out⟩,by simp[RowKit.intOf];omega⟩
  ·have br:¬(k:Int)<n:=by omega
   obtain rfl:k=n:=by omega
   have cB:Hid (NewAt wr w1.heap.size t t.length v adr):=hid (by rw[HN.out];exact aS)
   have CS:Hid (Calls Tryz.prog 55 #[.pointer (some ⟨w1.heap.size,0,none⟩)] wr fun r w'=>r=.returned (.tuple #[])/\∃ v1,w'.heap[w1.heap.size]?=some (.cells #[v,v1,.slice none 0 0,.bool true,.int .i64 (k:Nat),.int .i64 (0:Nat),.slice none 0 0,.slice none 0 0,.slice none 0 0] 122 (0,0))/\OwnE w' adr v1 (newD t).names/\(∀ g,v1.ownBlock=some g->wr.heap.size<=g)/\Out (fun k=>k=w1.heap.size) wr w'):=hid (by
    refine settle_row wr w1.heap.size adr (newD t).names v _ _ _ _ _ true k 0 aS.row ?_ ?_
    ·have h1:=aS.own;rw[<- HN.out,take_length,freshes_all]at h1;unfold OwnE;rw[show(newD t).names.length=t.length by rw[new_names];simp];exact owns_base h1 0 (Nat.zero_le _)
    ·rw[show(newD t).names.length=t.length by rw[new_names];simp,HN.out]
     exact ak)
   clear aS bS;repeat (first|go_skip|go_guarded|go_step|go_upon)
   refine CS.out.mono ?_;rintro r w3 ⟨rfl,v1,db,cV,cR,aU⟩;simp only[];have HD:Hid (Disk (fun k=>w1.heap.size<k/\k<w3.heap.size) w3 w1.heap.size (newD t)):=hid (new_disk HT.out cB.out (by rw[HN.out];exact db) cV cR aU);have bp:Hid (Below w.heap.size w w3):=hid (((Out.refl (fun k=>w.heap.size<=k) w).thenBelow B1.out |>.then (Out.of_below cS.out) (fun j hj h=>by have:=B1.out.size;omega) |>.then aU (fun j hj h=>by have:=B1.out.size;omega)).below (fun j hj _ h=>by omega) (Nat.le_refl _));clear db cV cR aU;repeat (first|go_skip|go_guarded|go_step|go_upon)
   go_ret2;exact⟨⟨_,_,rfl,B1.out.size,fun k hk=>by have:=B1.out.size;omega,HD.out⟩,bp.out⟩
theorem dnew_no(ao:Option Addr)(cap:Nat)(t:List Nd)(w:World)(he:NF.Env w)(hw:TW.Wide w ao cap t)(ht:treeB t=false) :
  Calls Tryz.prog 10 #[.slice ao t.length cap] w fun r w'=>r=.returned (.tuple #[.pointer none,.int .i64 60])/\Below w.heap.size w w':=by
 have CC:=hid (TW.Wide.check he hw);rw[show(checkG t:Nat)=60 from check_no ht]at CC;obtain⟨n,hn⟩:∃ n,t.length=n:=⟨_,rfl⟩;rw[hn]at CC ⊢;clear he hw ht hn;go_enter Tryz.func10,Tryz.ntmps10;repeat (first|go_skip|go_guarded|go_step|go_upon)
 refine CC.out.mono ?_;rintro r w1 ⟨rfl,ac⟩;simp only[];have B1:=hid ac;clear ac;rw[show(((60:Nat):Int))=60 from rfl];repeat (first|go_skip|go_guarded|go_step|go_upon)
 go_ret2;exact⟨rfl,B1.out⟩
theorem dnew_any(ao:Option Addr)(cap:Nat)(t:List Nd)(w:World)(he:NF.Env w)(hw:TW.Wide w ao cap t):Calls Tryz.prog 10 #[.slice ao t.length cap] w (NewPost t w):=by
 by_cases ht:treeB t=true
 ·refine(dnew_yes ao cap t w he hw ((tree_iff t).1 ht)).mono ?_;rintro r w' ⟨h,hb⟩;exact⟨fun _=>h,fun e=>(by rw[ht]at e;cases e),hb⟩
 ·have hf:treeB t=false:=by simpa using ht
  refine(dnew_no ao cap t w he hw hf).mono ?_;rintro r w' ⟨h,hb⟩;exact⟨fun e=>absurd e ht,fun _=>h,hb⟩
end DG
end
section
open Go.RowKit Go.Lib Go.BigFrame
namespace DG
open OM TP TM DP DM TG TR
def LastPost(l:List (List UInt8))(w:World)(r:Ending)(w':World):Prop :=
 ∃ v,r=.returned v/\w'.ownsRow w.heap.size 9 1 v l.length (l.map txt)/\Below w.heap.size w w'
def lastsK(B:List Nd)(p:List UInt8)(k:Nat):List (List UInt8):=((B.take k).map fun e=>restL p e.path).filter fun r=>!decide (r=[])&&!decide (47∈r)
theorem lastsK_yes{B:List Nd}{p:List UInt8}{k:Nat}{x:Nd}(hx:B[k]?=some x)(h1:restL p x.path≠[])(h2:(restL p x.path).contains 47=false):lastsK B p (k+1)=lastsK B p k++[restL p x.path]:=by
 unfold lastsK;rw[take_add_one,hx,Option.toList_some,map_append,List.filter_append];have h3:47 ∉ restL p x.path:=by simpa using h2
 simp[h1,h3]
theorem lastsK_no{B:List Nd}{p:List UInt8}{k:Nat}{x:Nd}(hx:B[k]?=some x)(h:restL p x.path=[]\/(restL p x.path).contains 47=true):lastsK B p (k+1)=lastsK B p k:=by
 unfold lastsK;rw[take_add_one,hx,Option.toList_some,map_append,List.filter_append];rcases h with h|h
 ·simp[h]
 ·have h3:47∈restL p x.path:=by simpa using h
  simp[h3]
theorem lastsK_len(B:List Nd)(p:List UInt8)(k:Nat):(lastsK B p k).length<=k:=by
 unfold lastsK;refine Nat.le_trans (length_filter_le _ _) ?_;rw[length_map,length_take];omega
theorem din_any(adr:Int->Nat)(ao:Option Addr)(cap:Nat)(ns:List Nd)(p:List UInt8)(w:World)(he:NF.Env w)(h:LayE w adr ao ns){mm:Nat}(hr:Row mm ns)(aD:ns.length<=cap)(hp:p.length<=maxLen) :
  Calls Tryz.prog 131 #[.slice ao ns.length cap,txt p] w (LastPost (lastsL ns p) w):=by
 obtain⟨i0,bl,bz,ba,bH⟩:=info_parts infoS;have CW:=hid (dwithin_any adr ao cap ns p w he h hr aD hp);have HL:=hid h;obtain⟨B,hB⟩:∃ B,inE ns p=B:=⟨_,rfl⟩;have d6:B.length<=1000:=by rw[<- hB];exact Nat.le_trans (length_filter_le _ _) hr.len
 have HF:Hid (lastsL ns p=lastsK B p B.length):=hid (by unfold lastsL lastsK;rw[hB,take_length]);obtain⟨n,hn⟩:∃ n,ns.length=n:=⟨_,rfl⟩;obtain⟨S,hS,di⟩:=txt_of p;have HS:=hid di;rw[hn,hS]at CW ⊢;obtain⟨q,hq⟩:∃ q,B.length=q:=⟨_,rfl⟩;have aZ:=hid hq;have d5:=hid hB;rw[hq]at d6 HF;clear h hr aD hp hn hS di he hB hq;go_enter Tryz.func131,Tryz.ntmps131;repeat (first|go_skip|go_guarded|go_step|go_upon)
 refine CW.out.mono ?_;rintro r w1 ⟨be,c',rfl,al,ac⟩;rw[d5.out]at al ⊢;rw[aZ.out];simp only[];have B1:=hid ac;have d0:=hid (al _ (HL.out.below ac));clear ac al;repeat (first|go_skip|go_guarded|go_step|go_upon)
 go_loopw [5,13] (fun s5 s13 wr=>∃ k:Nat,s13=.int .i64 k/\k<=q/\wr.ownsRow w1.heap.size 9 1 s5 (lastsK B p k).length ((lastsK B p k).map txt)/\Below w.heap.size w wr/\Below w1.heap.size w1 wr) (fun _ s13 _=>q-(RowKit.intOf s13).toNat)
 case atStart=>exact⟨0,rfl,Nat.zero_le _,World.ownsRow_nil _ _ _ _,B1.out,Below.refl _ _⟩
 case round =>
  obtain⟨k,rfl,hk,ho,hb,ac⟩:=hrel;have HO:=hid ho;have HB:=hid hb;have bJ:=hid ac;have bE:=hb.size;have aX:=ac.size;have bP:=hid (lastsK_len B p k);have c6:=hid (d0.out.below ac);clear ho hb ac;by_cases aq:k<q
  ·have br:(k:Int)<q:=by omega
   obtain⟨g,o,rfl,hg,hc⟩:=c6.out (by rw[aZ.out];omega);obtain⟨x,hx⟩:∃ x,B[k]?=some x:=⟨B[k]'(by rw[aZ.out];exact aq),getElem?_eq_getElem _⟩;obtain⟨X,hX,aF⟩:=txt_of x.path;obtain⟨a,ha⟩:=ptr_cases adr x.kind;obtain⟨c0,c1⟩:=hc k x hx;rw[hX]at c0;rw[ha]at c1;obtain⟨T1,ci,a6⟩:=txt_of (Lib.trimPrefix x.path p);obtain⟨T,hT,aP⟩:=txt_of (restL p x.path);have cc:=hid (trim_txt X S T1 x.path p aF HS.out a6);have c7:=hid (trim_txt T1 ⟨#[47]⟩ T (Lib.trimPrefix x.path p) [47] a6 rfl aP);obtain⟨bc,bA⟩:∃ b,(restL p x.path).contains 47=b:=⟨_,rfl⟩
   have CC:Hid (∀ W,Calls Tryz.prog 162 #[.string T,.string ⟨#[47]⟩] W fun e w'=>e=.returned (.bool bc)/\w'=W):=hid (fun W=>by
    have:=Tryz.strings_Contains_one T 47 W;rw[idx_contains,aP,bA]at this
    exact this)
   have dm:=hid hT;have cT:=hid bA;by_cases h0:restL p x.path=[]
   ·have dl:T.toList.isEmpty=true:=by rw[toList_data,aP,h0];rfl
    have HK:=hid (lastsK_no hx (.inl h0));clear hc hx hX aF ha aq ci a6 hT aP bA h0
    repeat (first
     | (go_at_call_of 103 (Value.string X);refine(cc.out _).mono ?_;rintro r w3 ⟨rfl,rfl⟩;simp only[])
     | (go_at_call_of 103 (Value.string T1);refine(c7.out _).mono ?_;rintro r w4 ⟨rfl,rfl⟩;simp only[])
     | go_skip|go_guarded|go_step|go_upon)
    refine⟨⟨k+1,by go_num,by omega,?_,HB.out.alloc bE _,bJ.out.alloc aX _⟩,by simp[RowKit.intOf];omega⟩;rw[HK.out];exact HO.out.alloc _
   ·have dl:T.toList.isEmpty=false:=by rw[toList_data,aP];simpa using h0
    cases bc with
    | true =>
     have HK:=hid (lastsK_no hx (.inr cT.out));clear hc hx hX aF ha aq ci a6 hT aP bA h0
     repeat (first
      | (go_at_call_of 103 (Value.string X);refine(cc.out _).mono ?_;rintro r w3 ⟨rfl,rfl⟩;simp only[])
      | (go_at_call_of 103 (Value.string T1);refine(c7.out _).mono ?_;rintro r w4 ⟨rfl,rfl⟩;simp only[])
      | (go_at_call 162;refine(CC.out _).mono ?_;rintro r w5 ⟨rfl,rfl⟩;simp only[])
      | go_skip|go_guarded|go_step|go_upon)
     refine⟨⟨k+1,by go_num,by omega,?_,HB.out.alloc bE _,bJ.out.alloc aX _⟩,by simp[RowKit.intOf];omega⟩;rw[HK.out];exact HO.out.alloc _
    | false =>
     have HK:=hid (lastsK_yes hx h0 cT.out);clear hc hx hX aF ha aq ci a6 hT aP bA h0
     repeat (first
      | (go_at_call_of 103 (Value.string X);refine(cc.out _).mono ?_;rintro r w3 ⟨rfl,rfl⟩;simp only[])
      | (go_at_call_of 103 (Value.string T1);refine(c7.out _).mono ?_;rintro r w4 ⟨rfl,rfl⟩;simp only[])
      | (go_at_call 162;refine(CC.out _).mono ?_;rintro r w5 ⟨rfl,rfl⟩;simp only[])
      | (at_builtin;refine wpList_append_own _ rfl _ _ 48 rfl w1.heap.size 9 i0 (.string ByteArray.empty) 1 16 Tryz.underlying48 bl bz ba bH rfl (by decide) _ _ _ rfl ((HO.out.alloc _).alloc _) ⟨wr.heap.size+1,0,none⟩ 1 1 [.string T] rfl rfl (by have:=one_new (wr.alloc (.cells #[.string X,.pointer a] 125)) (.string T) 9;simpa using this) (fun x hx=>by simp at hx;subst hx;rfl) (by have:=bP.out;unfold maxLen;omega) (by have:=bP.out;omega) (by simp;omega) ?_;intro v' w5 aK am bL;have dA:=hid aK;have d3:=hid (((HB.out.alloc bE _).alloc (by simp;omega) _).grown am (by simp;omega) (fun j hj=>Nat.le_trans B1.out.size (HO.out.lt j hj).1));have dL:=hid (((bJ.out.alloc aX _).alloc (by simp;omega) _).grown am (by simp;omega) (fun j hj=>(HO.out.lt j hj).1));clear aK am bL)
      | go_skip|go_guarded|go_step|go_upon)
     refine⟨⟨k+1,by go_num,by omega,?_,d3.out,dL.out⟩,by simp[RowKit.intOf];omega⟩;rw[HK.out,length_append,List.length_singleton,map_append,List.map_singleton,dm.out];exact dA.out
  ·have br:¬(k:Int)<q:=by omega
   have HK:Hid (lastsL ns p=lastsK B p k):=hid (by rw[HF.out];congr 1;omega);clear aq;repeat (first|go_skip|go_guarded|go_step|go_upon)
   go_ret;exact⟨_,rfl,by rw[HK.out];exact owns_base HO.out _ B1.out.size,HB.out⟩
end DG
end
section
open Go.RowKit Go.Lib Go.BigFrame
namespace DG
open OM TP TM DP DM TG TR FP
def namesR(D:Dk)(p:List UInt8):Dk×Int:=after (stepD D ⟨cNames,p,[]⟩) fun E=>refuse (firstE [missE E p,whenE (!decide (kindD E p=2)) 73]) E E
def lastsR(Z:Dk×Int)(p:List UInt8):List (List UInt8):=if Z.2=0 then lastsL Z.1.names p else []
theorem names_eq(D:Dk)(p:List UInt8):namesD D p=((namesR D p).1,(lastsR (namesR D p) p,(namesR D p).2)):=by
 unfold namesD lastsR;show(if(namesR D p).2=0 then _ else _)=_;split
 ·rename_i h;rw[h];rfl
 ·rfl
def NmsPost(S:Nat->Prop)(P:Nat)(Z:Dk×Int)(p:List UInt8)(w:World)(r:Ending)(w':World):Prop :=
 ∃ v,r=.returned (.tuple #[v,.int .i64 Z.2])/\w'.ownsRow w.heap.size 9 1 v (lastsR Z p).length ((lastsR Z p).map txt)/\Out (fun k=>S k\/k=P) w w'/\∃ S',(∀ k,S' k->S k\/w.heap.size<=k)/\Disk S' w' P Z.1/\∀ g,v.ownBlock=some g->¬ S' g/\g≠P
theorem dnames_any(S:Nat->Prop)(w:World)(P m:Nat)(D:Dk)(p:List UInt8)(h:Disk S w P D)(he:NF.Env w)(hH:Hi S P)(hm:Num m D)(hm2:m<=100000)(hp:p.length<=maxLen) :
  Calls Tryz.prog 75 #[.pointer (some ⟨P,0,none⟩),txt p] w (NmsPost S P (namesR D p) p w):=by
 obtain⟨X,hX,aF⟩:=txt_of p;obtain⟨E,hE⟩:∃ E,(stepD D ⟨cNames,p,[]⟩).1=E:=⟨_,rfl⟩;obtain⟨er,aw⟩:∃ e,(stepD D ⟨cNames,p,[]⟩).2=e:=⟨_,rfl⟩;have ah:=step_num hm ⟨cNames,p,[]⟩
 have CS:Hid (Calls Tryz.prog 56 #[.pointer (some ⟨P,0,none⟩),.string ⟨#[78,97,109,101,115]⟩,.string X,.string ⟨#[]⟩] w fun r w'=>r=.returned (.int .i64 er)/\Does S P w.heap.size w E w'):=hid (by
  have:=step_any S w P m D ⟨cNames,p,[]⟩ h he hH hm hm2;rw[hE,aw]at this;simp only at this;rw[hX]at this
  exact this)
 rw[hE]at ah
 have bx:Hid (er≠0->namesR D p=(E,er)):=hid (fun h0=>by
  unfold namesR
  rw[after_no (by rw[aw];exact h0),← hE,← aw])
 have b9:Hid (er=0->namesR D p=refuse (firstE [missE E p,whenE (!decide (kindD E p=2)) 73]) E E):=hid (fun h0=>by
  unfold namesR
  rw[after_yes (by rw[aw];exact h0),← hE])
 have HE:=hid he;have HH:=hid hH;have HX:=hid hX;have aE:=hid hp
 have bM:E.later.length<=1099511627776/\E.inos.length<=4611686018427387904:=by
  have a1:=ah.later;have a2:=ah.inos;have dy:m*2097152<=100000*2097152:=Nat.mul_le_mul_right _ hm2;have aQ:m*2147483648<=100000*2147483648:=Nat.mul_le_mul_right _ hm2;constructor<;>omega
 obtain⟨Z,hZ⟩:∃ Z,namesR D p=Z:=⟨_,rfl⟩;rw[hZ]at bx b9;rw[hZ,hX];clear h he hH hm hE aw ah bM hZ hX aF hp;go_enter Tryz.func75,Tryz.ntmps75;repeat (first|go_skip|go_guarded|go_step|go_upon)
 refine CS.out.mono ?_;rintro r w1 ⟨rfl,aA,S1,aR,adr,x,ar⟩;simp only[];have aC:=hid aA;have aM:=hid aR;have aj:=hid ar;by_cases h0:er=0
 ·have HZ:=hid (b9.out h0);obtain⟨ao,cap,av,_⟩:=layE_own ar.rest.names;obtain⟨n,hn⟩:∃ n,E.names.length=n:=⟨_,rfl⟩;rw[hn]at av;have hr:=ar.row;unfold diskC at hr;rw[av]at hr;obtain⟨c0,-,-,-,-,-,-,-,-,-⟩:=row9 hr;have bi:=(Array.getElem?_eq_some_iff.1 hr).1;have E1:=hid (env_does HE.out aA HH.out);have HV:=hid av;have g0:=cell_regrown c0;have D6:=hid (fun b e=>when_g w1 b e);obtain⟨e1,cb⟩:∃ e,missE E p=e:=⟨_,rfl⟩
  have D1:=hid (reg_g (w:=w1) (f:=129) (args:=#[.pointer (some ⟨P,0,none⟩),.string X]) (v:=.int .i64 e1) (fun W hW=>by
   have:=missing_any S1 W P E adr [] p ⟨x,aj.out.below hW⟩ (E1.out.below hW) aE.out;rw[cb,HX.out]at this
   exact this))
  obtain⟨k,hk⟩:∃ k,kindD E p=k:=⟨_,rfl⟩
  have D2:=hid (reg_g (w:=w1) (f:=57) (args:=#[.slice ao n cap,.string X]) (v:=.int .i64 k) (fun W hW=>by
   have:=kind_of (aj.out.below hW) p aE.out;rw[HV.out,HX.out,hk]at this
   exact this))
  obtain⟨q0,cE⟩:∃ b,(k != 2)=b:=⟨_,rfl⟩;obtain⟨e0,ag⟩:∃ e,firstE [missE E p,whenE (!decide (kindD E p=2)) 73]=e:=⟨_,rfl⟩
  have bU:Hid (firstE [e1,whenE q0 73]=e0):=hid (by
   rw[<- ag,cb,hk,← cE];have z2:(!decide (k=2))=(k != 2):=by by_cases h:k=2<;>simp[h]
   rw[z2])
  have bw:=hid ag;have HR:Hid (Row E.inos.length E.names):=hid ar.fit.names;have cd:=hid bi;subst h0;clear aA aR ar av hn hr hk cb ag c0;repeat (first|go_skip|go_guarded|go_step|go_upon)
  with_reducible refine QT.region_tail 11 (by kernel_rfl) (by kernel_rfl) ?_
  simp only[take_succ_cons,take_zero,drop_succ_cons,drop_zero];repeat (go_big_quiet_step (first|(go_at_call 129;with_reducible exact D1.out _ _)|(go_at_call 57;with_reducible exact D2.out _ _)|(go_at_call 59;with_reducible exact D6.out _ _ _ _)))
  refine wpQuiet_nil ?_;intro _ hw';obtain⟨⟨dq,bf⟩,aT⟩:=hw';subst aT;have B5:=hid (below_regrown w1 dq bf);clear g0;generalize Go.Sort.grow (redrawn w1 dq) bf=w5 at B5 ⊢;repeat (first|go_skip|go_guarded|go_step|go_upon)
  refine(first2 _ _ _ _ _ (heap_alloc_new w5 _)).mono ?_;rintro r w7 ⟨bC,bq⟩;have au:=bC.trans (congrArg (fun z=>Ending.returned (.int .i64 z)) bU.out);subst au;clear bC;simp only[];have B7:Hid (Below w1.heap.size w1 w7):=hid (bq ▸ B5.out.alloc B5.out.size _);clear bq;by_cases ag:e0=0
  ·subst ag;have aG:Hid (Z=(E,0)):=hid (by rw[HZ.out,bw.out];rfl);have D7:=hid (aj.out.below B7.out);have au:=D7.out.row;unfold diskC at au;rw[HV.out]at au;obtain⟨k0,-,-,-,-,k5,-,-,-,-⟩:=row9 au;obtain⟨be,a4,ai,ab,aa,_⟩:=layE_own D7.out.rest.names;have CI:=hid (din_any adr be a4 E.names p w7 (E1.out.below B7.out) ab HR.out aa aE.out);rw[<- ai,HV.out,HX.out]at CI;clear au ai ab aa;repeat (first|go_skip|go_guarded|go_step|go_upon)
   refine CI.out.mono ?_;rintro r w8 ⟨v8,rfl,bb,bk⟩;simp only[];have bN:=hid bb;have cP:=hid bk;obtain⟨a8,c8,d2,_⟩:=owns_view bb;subst d2;have dK:=B7.out.size;have ba:=aC.out.size;clear bb bk;repeat (first|go_skip|go_guarded|go_step|go_upon)
   go_ret2;rw[aG.out];refine⟨_,rfl,owns_base bN.out _ (by omega),aC.out.thenBelow (Below.trans B7.out (cP.out.mono dK)),S1,aM.out,⟨adr,x,(aj.out.below B7.out).below cP.out⟩,fun g hg=>?_⟩;have h5:=(bN.out.lt g hg).1;have h6:=cd.out;exact⟨fun h7=>by have:=aj.out.lt g h7;omega,by omega⟩
  ·have cm:(e0 != 0)=true:=by simpa using ag
   have aH:(e0==0)=false:=by simpa using ag
   have aG:Hid (Z=(E,e0)):=hid (by rw[HZ.out,bw.out];unfold refuse;rw[if_neg ag]);have HL:Hid (lastsR (E,e0) p=[]):=hid (if_neg ag);clear ag;repeat (first|go_skip|go_guarded|go_step|go_upon)
   go_ret2;rw[aG.out];refine⟨_,rfl,?_,aC.out.thenBelow B7.out,S1,aM.out,⟨adr,x,aj.out.below B7.out⟩,fun g hg=>(by cases hg)⟩;rw[HL.out];exact World.ownsRow_nil _ _ _ _
 ·have HZ:=hid (bx.out h0);have cm:(er != 0)=true:=by simpa using h0
  have aH:(er==0)=false:=by simpa using h0
  clear aA aR ar h0;have HL:Hid (lastsR (E,er) p=[]):=hid (if_neg (by simpa using aH));repeat (first|go_skip|go_guarded|go_step|go_upon)
  go_ret2;rw[HZ.out];refine⟨_,rfl,?_,aC.out,S1,aM.out,⟨adr,x,aj.out⟩,fun g hg=>(by cases hg)⟩;rw[HL.out];exact World.ownsRow_nil _ _ _ _
end DG
end
section
open Go.RowKit Go.Lib Go.BigFrame
namespace DG
open OM TP TM DP DM TG TR FP
theorem str_from(S:ByteArray)(a:Nat)(h2:a<=S.size)(W:World) :
  (Instr.slice 9 (.string S) (some (.int .i64 (a:Nat))) none none).run Tryz.prog W=.ok (.string ⟨(S.data.toList.drop a).toArray⟩) W:=by
 have e1:S=⟨S.data.toList.toArray⟩:=by apply ByteArray.ext;simp
 rw[run_slice_string_from_if W 9 S .i64 a Tryz.underlying9,if_pos (by omega)]
 have e2:S.extract (a:Int).toNat S.size=⟨(S.data.toList.drop a).toArray⟩:=by
  conv=>lhs;rw[e1]
  apply ByteArray.ext;apply Array.ext';refine(Lib.extract_data _ _ _).trans ?_;rw[Int.toNat_natCast,List.take_of_length_le (by rw[length_drop,size_eq];simp)]
 rw[e2]
theorem txt_app(q l:List UInt8)(Y X2:ByteArray)(hY:Y.data.toList=q)(hX:X2.data.toList=l):(Value.string (Y++X2))=txt (q++l):=by
 unfold txt;congr 1;apply ByteArray.ext;apply Array.ext';simp[hY,hX]
open NP in
theorem within_len{n p:List UInt8}(h:withinL n p=true):p.length<=n.length:=by
 unfold withinL at h;simp only[Bool.and_eq_true]at h;have h2:=h.2.1;unfold Lib.hasPrefix at h2;exact(List.isPrefixOf_iff_prefix.1 h2).length_le
theorem part_len{α:Type}(f:α->Bool):∀ l:List α,(l.filter f).length+(l.filter fun e=>!f e).length=l.length
 | []=>rfl
 | a::l=>by
  have ih:=part_len f l;cases h:f a<;>simp[h]<;>omega
def movK(B:List Nd)(p q:List UInt8)(k:Nat):List Nd:=(B.take k).map fun e=>en (q++e.path.drop p.length) e.kind
theorem movK_succ{B:List Nd}{p q:List UInt8}{k:Nat}{x:Nd}(hx:B[k]?=some x):movK B p q (k+1)=movK B p q k++[en (q++x.path.drop p.length) x.kind]:=by
 unfold movK;rw[take_add_one,hx,Option.toList_some,map_append];rfl
theorem movK_len(B:List Nd)(p q:List UInt8)(k:Nat):(movK B p q k).length<=k:=by
 unfold movK;rw[length_map,length_take];omega
theorem moved_all(E:Dk)(p q:List UInt8):movedC E p q=outE E.names p++movK (inE E.names p) p q (inE E.names p).length:=by
 unfold movedC movK;rw[take_length]
theorem chg_move{S1:Nat->Prop}{W:World}{P:Nat}{E:Dk}{adr:Int->Nat}{x:Parts}{p q:List UInt8}{v:Value}(h:DiskX S1 W P E adr [] x)(hb:badE (movedC E p q)=false){B:Nat}(hB:∀ k,S1 k->k<B)(ho:W.ownsRow B 125 2 v (movedC E p q).length (ensC adr (movedC E p q))){a:Option Addr}{c:Nat}(hv:v=.slice a (movedC E p q).length c) :
  ChgIn S1 W E adr [] a (movedC E p q):=by
 have dM:(inE E.names p).length<=E.names.length:=length_filter_le _ _;have ak:=h.fit.names.len;have dz:=out_gone E.names p
 have cL:(inE E.names p).length+(E.names.filter fun e=>!NP.withinL e.path p).length=E.names.length:=by
  unfold inE;exact part_len (fun e=>NP.withinL e.path p) E.names
 have dG:(outE E.names p).length=(inE E.names p).length:=by unfold outE;rw[length_map]
 have b0:(movK (inE E.names p) p q (inE E.names p).length).length=(inE E.names p).length:=by unfold movK;rw[take_length,length_map]
 obtain⟨a2,c2,cN,al,_,_,cF⟩:=layE_own (owns_base ho 0 (Nat.zero_le _):OwnE W adr v (movedC E p q));rw[hv]at cN;injection cN with e1 _ _;subst e1;refine⟨al,⟨fun e he=>?_,fun e he=>?_⟩,fun ad ha=>?_,fun j=>?_,?_,fun e he h0=>?_⟩
 ·unfold badE at hb;have:=List.any_eq_false.1 hb e he;simpa using this
 ·rw[moved_all]at he;rcases List.mem_append.1 he with he|he
  ·obtain⟨f,hf,rfl⟩:=List.mem_map.1 he;exact⟨0,rfl,Nat.zero_le _⟩
  ·obtain⟨f,hf,rfl⟩:=List.mem_map.1 he;obtain⟨k,h1,h2,h3⟩:=h.fit.names.ino f (List.mem_filter.1 (List.mem_of_mem_take hf)).1;refine⟨k,?_,h3⟩;have:f.kind=k:=by rw[h1];rfl
   rw[this];rfl
 ·have b6:=cF ad ha;exact⟨own_type ho _ b6,fun hS=>by have:=hB _ hS;have:=(ho.lt _ b6).1;omega⟩
 ·rw[moved_all];by_cases hk:j<=(outE E.names p).length
  ·rw[List.take_append_of_le_length hk];refine Nat.le_trans (with_out_len E.names _ (fun e he=>?_)) ak;obtain⟨f,_,rfl⟩:=List.mem_map.1 (List.mem_of_mem_take he);rfl
  ·rw[List.take_append,List.take_of_length_le (by omega),with_app,dz];have h1:=with_len (E.names.filter fun e=>!NP.withinL e.path p) ((movK (inE E.names p) p q (inE E.names p).length).take (j-(outE E.names p).length))
   have h4:((movK (inE E.names p) p q (inE E.names p).length).take (j-(outE E.names p).length)).length<=(inE E.names p).length:=by
    rw[length_take,b0];omega
   omega
 ·rw[moved_all,length_append,dG,b0];omega
 ·rw[moved_all]at he;rcases List.mem_append.1 he with he|he
  ·obtain⟨f,hf,rfl⟩:=List.mem_map.1 he;exact absurd rfl h0
  ·obtain⟨f,hf,rfl⟩:=List.mem_map.1 he;exact⟨f,List.mem_append_right _ (by unfold liveL;exact List.mem_append_left _ (List.mem_filter.1 (List.mem_of_mem_take hf)).1),rfl⟩
theorem mov_step{W:World}{adr:Int->Nat}{l:List Nd}{e:Nd}{base:Nat}{u:Value}{X:ByteArray}{a:Option Addr}(h:W.ownsRow base 125 2 u l.length (ensC adr l))(hX:Value.string X=txt e.path)(ha:ptrV adr e.kind=.pointer a)(hl:l.length<=100000)(hb:base<=W.heap.size) :
  ∃ a' c' W3,(Builtin.append_ #[118,118] 118 #[u,.slice (some ⟨W.heap.size,0,none⟩) 1 1]).run Tryz.prog ((W.alloc (.cells #[.string X,.pointer a] 125)).drew)=.ok (.slice a' (l++[e]).length c') W3/\W3.ownsRow base 125 2 (.slice a' (l++[e]).length c') (l++[e]).length (ensC adr (l++[e]))/\Out (fun k=>u.ownBlock=some k) W W3:=by
 obtain⟨i0,bl,bz,ba,bH⟩:=info_parts infoE;have o2:(W.drew.alloc (.cells #[.string X,.pointer a] 125)).ownsRow base 125 2 u l.length (ensC adr l):=World.ownsRow.alloc (w:=W.drew) h _;have aY:=two_new W.drew W.heap.size rfl adr e (.string X) (.pointer a) hX.symm ha 125
 obtain⟨v',W3,hr,ho,hg,_⟩:=run_append_own (P:=Tryz.prog) (w:=W.drew.alloc (.cells #[.string X,.pointer a] 125)) base 118 118 125 i0 (.agg #[.string ⟨#[]⟩,.pointer none]) 2 24 (by kernel_rfl) bl bz ba bH rfl (by decide) u l.length _ o2 ⟨W.heap.size,0,none⟩ 1 1
  (enCells adr e) rfl aY (en_one _ _) (by unfold maxLen;omega) (by omega) (by rw[World.size_alloc];show base<=W.heap.size+1;omega)
 obtain⟨a',c',cv,_⟩:=owns_view ho;subst cv;refine⟨a',c',W3,?_,?_,((Out.refl _ W).drew.alloc _).grown hg (fun j hj _=>hj)⟩
 ·rw[length_append];exact hr
 ·rw[length_append,ens_snoc];exact ho
theorem dmove_any(S:Nat->Prop)(w:World)(P m:Nat)(D:Dk)(p q:List UInt8)(h:Disk S w P D)(he:NF.Env w)(hH:Hi S P)(hm:Num m D)(hm2:m<=100000)(hp:p.length<=maxLen)(hq:q.length<=maxLen) :
  Calls Tryz.prog 48 #[.pointer (some ⟨P,0,none⟩),txt p,txt q] w fun r w'=>r=.returned (.int .i64 (moveD D p q).2)/\Does S P w.heap.size w (moveD D p q).1 w':=by
 obtain⟨X,hX,aF⟩:=txt_of p;obtain⟨Y,hY,cU⟩:=txt_of q;obtain⟨E,hE⟩:∃ E,(stepD D ⟨cMove,p,q⟩).1=E:=⟨_,rfl⟩;obtain⟨er,aw⟩:∃ e,(stepD D ⟨cMove,p,q⟩).2=e:=⟨_,rfl⟩;have ah:=step_num hm ⟨cMove,p,q⟩
 have CS:Hid (Calls Tryz.prog 56 #[.pointer (some ⟨P,0,none⟩),.string ⟨#[77,111,118,101]⟩,.string X,.string Y] w fun r w'=>r=.returned (.int .i64 er)/\Does S P w.heap.size w E w'):=hid (by
  have:=step_any S w P m D ⟨cMove,p,q⟩ h he hH hm hm2;rw[hE,aw]at this;simp only at this;rw[hX]at this;rw[hY]at this
  exact this)
 rw[hE]at ah
 have bx:Hid (er≠0->moveD D p q=(E,er)):=hid (fun h0=>by
  unfold moveD
  rw[after_no (by rw[aw];exact h0),← hE,← aw])
 have b9:Hid (er=0->moveD D p q=if moveE E p q=0 then(if((movedC E p q).any fun e=>!NP.pathL e.path)=true then(E,11)else(changeD E (movedC E p q),0))else(E,moveE E p q)):=hid (fun h0=>by
  unfold moveD
  rw[after_yes (by rw[aw];exact h0),← hE])
 have HE:=hid he;have HH:=hid hH;have HX:=hid hX;have cx:=hid aF;have aE:=hid hp;have HY:=hid hY;have bj:=hid cU;have bT:=hid hq
 have bM:E.later.length<=1099511627776/\E.inos.length<=4611686018427387904:=by
  have a1:=ah.later;have a2:=ah.inos;have dy:m*2097152<=100000*2097152:=Nat.mul_le_mul_right _ hm2;have aQ:m*2147483648<=100000*2147483648:=Nat.mul_le_mul_right _ hm2;constructor<;>omega
 have d4:=hid bM;obtain⟨Z,hZ⟩:∃ Z,moveD D p q=Z:=⟨_,rfl⟩;rw[hZ]at bx b9;rw[hZ,hX,hY];clear h he hH hm hE aw ah bM hZ hX aF hp hY cU hq;go_enter Tryz.func48,Tryz.ntmps48;repeat (first|go_skip|go_guarded|go_step|go_upon)
 refine CS.out.mono ?_;rintro r w1 ⟨rfl,aA,S1,aR,adr,x,ar⟩;simp only[];have aC:=hid aA;have aM:=hid aR;have aj:=hid ar;by_cases h0:er=0
 ·have HZ:=hid (b9.out h0);obtain⟨ao,cap,av,_⟩:=layE_own ar.rest.names;obtain⟨n,hn⟩:∃ n,E.names.length=n:=⟨_,rfl⟩;rw[hn]at av;have hr:=ar.row;unfold diskC at hr;rw[av]at hr;obtain⟨c0,-,-,-,-,-,-,-,-,-⟩:=row9 hr;have bi:=(Array.getElem?_eq_some_iff.1 hr).1;have E1:=hid (env_does HE.out aA HH.out);have HV:=hid av;have d8:=hid hn;have g0:=cell_regrown c0;have D6:=hid (fun b e=>when_g w1 b e);obtain⟨b1,ac⟩:∃ b,NP.pathL p=b:=⟨_,rfl⟩
  have D1:=hid (reg_g (w:=w1) (f:=60) (args:=#[.string X]) (v:=.bool b1) (fun W hW=>by
   have:=path_txt X p W (E1.out.below hW) cx.out aE.out;rw[ac]at this
   exact this))
  obtain⟨b3,bX⟩:∃ b,NP.pathL q=b:=⟨_,rfl⟩
  have D3:=hid (reg_g (w:=w1) (f:=60) (args:=#[.string Y]) (v:=.bool b3) (fun W hW=>by
   have:=path_txt Y q W (E1.out.below hW) bj.out bT.out;rw[bX]at this
   exact this))
  obtain⟨k,hk⟩:∃ k,kindD E p=k:=⟨_,rfl⟩
  have D2:=hid (reg_g (w:=w1) (f:=57) (args:=#[.slice ao n cap,.string X]) (v:=.int .i64 k) (fun W hW=>by
   have:=kind_of (aj.out.below hW) p aE.out;rw[HV.out,HX.out,hk]at this
   exact this))
  obtain⟨k2,aQ⟩:∃ k,kindD E q=k:=⟨_,rfl⟩
  have D5:=hid (reg_g (w:=w1) (f:=57) (args:=#[.slice ao n cap,.string Y]) (v:=.int .i64 k2) (fun W hW=>by
   have:=kind_of (aj.out.below hW) q bT.out;rw[HV.out,HY.out,aQ]at this
   exact this))
  obtain⟨b4,cD⟩:∃ b,upB E q=b:=⟨_,rfl⟩
  have D4:=hid (reg_g (w:=w1) (f:=62) (args:=#[.pointer (some ⟨P,0,none⟩),.string Y]) (v:=.bool b4) (fun W hW=>by
   have:=up_any S1 W P E adr [] q ⟨x,aj.out.below hW⟩ (E1.out.below hW) bT.out;rw[cD,HY.out]at this
   exact this))
  obtain⟨b7,cy⟩:∃ b,NP.withinL q p=b:=⟨_,rfl⟩
  have dF:=hid (reg_g (w:=w1) (f:=109) (args:=#[.string Y,.string X]) (v:=.bool b7) (fun W hW=>by
   have:=NI.within_any Y X W (E1.out.below hW) (by rw[size_eq,bj.out];exact bT.out);rw[bj.out,cx.out,cy]at this
   exact this))
  obtain⟨q0,cE⟩:∃ b,(k==0)=b:=⟨_,rfl⟩;obtain⟨q4,dB⟩:∃ b,(k2 != 0)=b:=⟨_,rfl⟩;obtain⟨e0,ag⟩:∃ e,moveE E p q=e:=⟨_,rfl⟩
  have bU:Hid (firstE [whenE (!b1||!b3) 11,whenE b7 2,whenE q0 74,whenE q4 72,whenE (!b4) 62]=e0):=hid (by
   rw[<- ag];unfold moveE;rw[ac,bX,cD,cy,hk,aQ,← cE,← dB];have z0:decide (k=0)=(k==0):=by by_cases h:k=0<;>simp[h]
   have z4:(!decide (k2=0))=(k2 != 0):=by by_cases h:k2=0<;>simp[h]
   rw[z0,z4])
  have aV:Hid (e0=0->NP.pathL p=true/\NP.pathL q=true):=hid (fun hz=>by
   have h1:=bU.out;rw[hz]at h1;obtain⟨z1,h1⟩:=first_cons h1;have y1:=when_zero z1 (by omega);rw[ac,bX];simp at y1
   exact⟨y1.1,y1.2⟩)
  have bw:=hid ag;have cI:Hid (n<=1000):=hid (by rw[<- hn];exact ar.fit.names.len);have HR:Hid (Row E.inos.length E.names):=hid ar.fit.names;subst h0;clear aA aR ar av hn hr hk aQ ac bX cD cy ag c0;cases b1
  all_goals
   repeat (first|go_skip|go_guarded|go_step|go_upon)
   with_reducible refine QT.region_tail 34 (by kernel_rfl) (by kernel_rfl) ?_
   simp only[take_succ_cons,take_zero,drop_succ_cons,drop_zero];repeat (go_big_quiet_step (first|(go_at_call 60;with_reducible exact D1.out _ _)|(go_at_call 60;with_reducible exact D3.out _ _)|(go_at_call 109;with_reducible exact dF.out _ _)|(go_at_call 57;with_reducible exact D2.out _ _)|(go_at_call 57;with_reducible exact D5.out _ _)|(go_at_call 62;with_reducible exact D4.out _ _)|(go_at_call 59;with_reducible exact D6.out _ _ _ _)))
   refine wpQuiet_nil ?_;intro _ hw';obtain⟨⟨dq,bf⟩,aT⟩:=hw';subst aT;have B5:=hid (below_regrown w1 dq bf);clear g0;generalize Go.Sort.grow (redrawn w1 dq) bf=w5 at B5 ⊢;repeat (first|go_skip|go_guarded|go_step|go_upon)
   refine(first5 _ _ _ _ _ _ _ _ (heap_alloc_new w5 _)).mono ?_;rintro r w7 ⟨bC,bq⟩;have au:=bC.trans (congrArg (fun z=>Ending.returned (.int .i64 z)) bU.out);subst au;clear bC;simp only[];have B7:Hid (Below w1.heap.size w1 w7):=hid (bq ▸ B5.out.alloc B5.out.size _);clear bq;by_cases ag:e0=0
   ·subst ag;have cZ:=hid (HZ.out.trans (if_pos bw.out));have dd:=hid (aV.out rfl);have D7:=hid (aj.out.below B7.out);have au:=D7.out.row;unfold diskC at au;rw[HV.out]at au;obtain⟨k0,-,-,-,-,k5,-,-,-,-⟩:=row9 au;obtain⟨be,a4,ai,ab,aa,_⟩:=layE_own D7.out.rest.names;have CO:=hid (without_any adr be a4 E.names p w7 (E1.out.below B7.out) ab HR.out aa aE.out);rw[<- ai,HV.out,HX.out]at CO;clear au ai ab aa;repeat (first|go_skip|go_guarded|go_step|go_upon)
    refine CO.out.mono ?_;rintro r w8 ⟨v8,rfl,bb,bk⟩;simp only[];have B8:=hid (Below.trans B7.out (bk.mono B7.out.size));have D8:=hid (aj.out.below B8.out);have bN:=hid bb;have bQ:=D8.out.row;unfold diskC at bQ;rw[HV.out]at bQ;obtain⟨k0,-,-,-,-,k5,-,-,-,-⟩:=row9 bQ;obtain⟨be,a4,ai,ab,aa,_⟩:=layE_own D8.out.rest.names;obtain⟨B,bd⟩:∃ B,inE E.names p=B:=⟨_,rfl⟩;obtain⟨m8,b8⟩:∃ j,B.length=j:=⟨_,rfl⟩;have aZ:=hid bd;have co:=hid b8
    have CW:Hid (Calls Tryz.prog 108 #[.slice ao n cap,.string X] w8 fun r w'=>∃ a c,r=.returned (.slice a m8 c)/\LayE w1 adr a B/\Below w8.heap.size w8 w'):=hid (by
     have:=dwithin_any adr be a4 E.names p w8 (E1.out.below B8.out) ab HR.out aa aE.out;rw[<- ai,HV.out,HX.out]at this;refine this.mono ?_;rintro r w' ⟨a,c,rfl,h1,h2⟩;rw[bd,b8];refine⟨a,c,rfl,?_,h2⟩;rw[<- bd];refine h1 _ ?_;obtain⟨dS,d7,bg,bF,_⟩:=layE_own aj.out.rest.names;rw[ai]at bg;injection bg with e1 _ _;rw[e1]
     exact bF)
    have dP:m8<=1000:=by
     have h1:(inE E.names p).length<=E.names.length:=length_filter_le _ _;have:=d8.out;have:=cI.out;rw[bd,b8]at h1;omega
    have dh:Hid ((outE E.names p).length=m8):=hid (by unfold outE;rw[length_map,bd,b8]);have dQ:Hid (p.length<=maxLen):=aE;obtain⟨lp,cA⟩:∃ j,p.length=j:=⟨_,rfl⟩;have cY:=hid cA;have dN:X.size=lp:=by rw[size_eq,cx.out,cA]
    clear bQ ai ab aa bk bb bd b8 cA;repeat (first|go_skip|go_guarded|go_step|go_upon)
    refine CW.out.mono ?_;rintro r w9 ⟨a9,c9,rfl,aL,cq⟩;simp only[];have B9:=hid (Below.trans B8.out (cq.mono B8.out.size));have dr:=hid aL;have dn:=hid (owns_base (owns_below bN.out cq) w1.heap.size B7.out.size);clear cq aL;repeat (first|go_skip|go_guarded|go_step|go_upon)
    go_loopw [8,70] (fun s8 s70 wr=>∃(k:Nat) (u8:Value),s70=.int .i64 k/\u8=s8/\k<=m8/\wr.ownsRow w1.heap.size 125 2 u8 (outE E.names p++movK B p q k).length (ensC adr (outE E.names p++movK B p q k))/\Below w1.heap.size w1 wr) (fun _ s70 _=>m8-(RowKit.intOf s70).toNat)
    case atStart =>
     refine⟨0,_,rfl,rfl,Nat.zero_le _,?_,B9.out⟩;rw[show movK B p q 0=[] from rfl,List.append_nil];exact dn.out
    case round =>
     obtain⟨k,u8,rfl,rfl,hk,ho,hb⟩:=hrel;have HO:=hid ho;have HB:=hid hb;have c6:=hid (dr.out.below hb);have bE:=hb.size;clear ho hb;by_cases aq:k<m8
     ·have br:(k:Int)<m8:=by omega
      obtain⟨g,o,rfl,hg,hc⟩:=c6.out (by rw[co.out];omega);obtain⟨y,hy⟩:∃ y,B[k]?=some y:=⟨B[k]'(by rw[co.out];exact aq),getElem?_eq_getElem _⟩;obtain⟨Yx,cM,bn⟩:=txt_of y.path;obtain⟨a,ha⟩:=ptr_cases adr y.kind;obtain⟨c0,c1⟩:=hc k y hy;rw[cM]at c0;rw[ha]at c1
      have ck:NP.withinL y.path p=true:=by
       have h1:=List.mem_of_getElem? hy;rw[<- aZ.out]at h1;exact(List.mem_filter.1 h1).2
      have dC:=str_from Yx lp (by rw[size_eq,bn,← cY.out];exact within_len ck);obtain⟨X2,cG⟩:∃ X2:ByteArray,(⟨(Yx.data.toList.drop lp).toArray⟩:ByteArray)=X2:=⟨_,rfl⟩;have b5:X2.data.toList=y.path.drop p.length:=by rw[<- cG,bn,cY.out]
      rw[cG]at dC
      have dI:¬ 9223372036854775807<Y.size+X2.size:=by
       have h1:=((path_iff q).1 dd.out.2).1;have h2:=((path_iff y.path).1 (within_path ck)).1;have h3:Y.size=q.length:=by rw[size_eq,bj.out]
       have h4:X2.size=y.path.length-p.length:=by rw[size_eq,b5,length_drop]
       omega
      have cO:=txt_app q (y.path.drop p.length) Y X2 bj.out b5;have HK:=hid (movK_succ (p:=p) (q:=q) hy);have bP:=hid (movK_len B p q k);have RV:=heap_alloc_new wr (.cells #[.string Yx,.pointer a] 125);have bW:Below wr.heap.size wr (wr.alloc (.cells #[.string Yx,.pointer a] 125)):=(Below.refl _ _).alloc (Nat.le_refl _) _;repeat (first|go_skip|go_guarded|go_step|go_upon)
      obtain⟨W,hW⟩:∃ W,wr.alloc (.cells #[.string Yx,.pointer a] 125)=W:=⟨_,rfl⟩;rw[hW]at RV bW ⊢;obtain⟨t0,t1,tf⟩:=row2 RV;have cK:=hid (mov_step (W:=W) (adr:=adr) (l:=outE E.names p++movK B p q k) (e:=en (q++y.path.drop p.length) y.kind) (owns_below HO.out bW) cO ha (by rw[length_append,dh.out];have:=bP.out;omega) (by have:=bW.size;omega));clear hc hy cM ha aq ck cO cG;refine wp_region_noPanic ?_;with_reducible refine QT.region_hold (S:=fun w'=>w'.cell? ⟨wr.heap.size,0,none⟩=some (.string Yx)/\w'.cell? ⟨wr.heap.size,1,none⟩=some (.pointer a)) 11 13 (by kernel_rfl) (by kernel_rfl) ?_ ?_ ?_
      ·exact fun _ _ _ _ _ h=>h
      ·exact⟨t0,t1⟩
      intro _;simp only[take_succ_cons,take_zero,drop_succ_cons,drop_zero];iterate 11 (refine QT.wpTake_cons _ (by rfl) (by intro w' ct;obtain⟨y0,y1⟩:=ct;go_simp;first|done|rfl) ?_;simp only[Act.put,setIfInBounds_toArray,set_cons_zero,set_cons_succ])
      refine QT.wpTake_nil ?_;intro K' hK;rw[if_pos (by rfl)];go_simp;obtain⟨a',c',W3,a5,aO,ay⟩:=cK.out;have b2:Below W.heap.size W ((W.alloc (.cells #[.string (Y++X2),.pointer a] 125)).drew):=((Below.refl _ _).alloc (Nat.le_refl _) _).drew;have dc:wr.heap.size<W.heap.size:=(Array.getElem?_eq_some_iff.1 RV).1;refine hK.out _ _ ⟨(b2.cell (p:=⟨wr.heap.size,0,none⟩) dc).trans t0,(b2.cell (p:=⟨wr.heap.size,1,none⟩) dc).trans t1⟩ ?_;clear hK K';try simp only[Act.put,setIfInBounds_toArray,set_cons_zero,set_cons_succ]
      have bt:W3.heap[wr.heap.size]?=_:=ay.row RV (fun h2=>by have:=(HO.out.lt _ h2).2;omega);obtain⟨x0,x1,-⟩:=row2 bt;intro K' hK;refine step_app_eq rfl (.tmp 74) (.tmp 85) 118 118 rfl u8 (.slice (some ⟨W.heap.size,0,none⟩) 1 1) rfl rfl a5 ?_;refine hK.out _ _ ⟨x0,x1⟩ ?_;clear hK K';refine QT.wpDo_nil ?_;try simp only[Act.put,setIfInBounds_toArray,set_cons_zero,set_cons_succ]
      have dD:Hid (W3.ownsRow w1.heap.size 125 2 (.slice a' (outE E.names p++movK B p q (k+1)).length c') (outE E.names p++movK B p q (k+1)).length (ensC adr (outE E.names p++movK B p q (k+1)))):=hid (by
       rw[HK.out,← List.append_assoc]
       exact aO)
      have dk:Hid ((outE E.names p++movK B p q k++[en (q++y.path.drop p.length) y.kind]).length=(outE E.names p++movK B p q (k+1)).length):=hid (by rw[HK.out,← List.append_assoc]);have u3:Out (fun k=>u8.ownBlock=some k) wr W3:=((Out.refl _ wr).thenBelow bW).then ay (fun j _ h=>h);have bp:Hid (Below w1.heap.size w1 W3):=hid ((((Out.of_below HB.out)).then u3 (fun j _ h=>(HO.out.lt j h).1)).below (fun j hj _ h=>by omega) (Nat.le_refl _));clear a5 aO ay RV bt bW b2 u3;repeat (first|go_skip|go_guarded|go_step|go_upon)
      refine NoPanic.normal ?_;repeat (first|go_skip|go_guarded|go_step|go_upon)
      refine⟨⟨k+1,_,by go_num,rfl,by omega,?_,bp.out⟩,by simp[RowKit.intOf];omega⟩;rw[dk.out];exact dD.out
     ·have br:¬(k:Int)<m8:=by omega
      obtain rfl:k=m8:=by omega
      have de:Hid (outE E.names p++movK B p q k=movedC E p q):=hid (by rw[moved_all,aZ.out,co.out])
      have df:Hid (wr.ownsRow w1.heap.size 125 2 u8 (movedC E p q).length (ensC adr (movedC E p q))):=hid (by
       have:=HO.out;rw[de.out]at this
       exact this)
      obtain⟨bB,c5,bu,az,_⟩:=layE_own (owns_base df.out 0 (Nat.zero_le _):OwnE wr adr u8 (movedC E p q))
      have b0:(movedC E p q).length<=1000000:=by
       rw[<- de.out,length_append,dh.out];have:=movK_len B p q k;omega
      have da:SmallE (movedC E p q):=fun e he=>by
       unfold movedC at he;rcases List.mem_append.1 he with he|he
       ·obtain⟨f,hf,rfl⟩:=List.mem_map.1 he;exact row_small HR.out f (List.mem_filter.1 hf).1
       ·obtain⟨f,hf,rfl⟩:=List.mem_map.1 he;have h1:=row_small HR.out f (List.mem_filter.1 hf).1;have h2:=((path_iff q).1 dd.out.2).1;have h3:=((path_iff f.path).1 (HR.out.path f (List.mem_filter.1 hf).1)).1;show(q++f.path.drop p.length).length<=maxLen;rw[length_append,length_drop];unfold maxLen;omega
      obtain⟨du,aB⟩:∃ j,(movedC E p q).length=j:=⟨_,rfl⟩;obtain⟨cQ,aJ⟩:∃ b,badE (movedC E p q)=b:=⟨_,rfl⟩;have CC:=hid (dcontains_any adr bB c5 (movedC E p q) wr (E1.out.below HB.out) az da b0);have HJ:=hid aB;have ds:=hid aJ;rw[aB]at bu;rw[aB,aJ]at CC;subst bu;have bD:Hid (((movedC E p q).any fun e=>!NP.pathL e.path)=cQ):=hid aJ;clear az b0 da aB aJ aq;repeat (first|go_skip|go_guarded|go_step|go_upon)
      refine CC.out.mono ?_;rintro r bO ⟨rfl,aW⟩;simp only[];have bY:=hid (Below.trans HB.out (aW.mono bE));have bh:=hid (owns_below df.out aW);clear aW
      cases cQ with
      | true =>
       have aG:Hid (Z=(E,11)):=hid (by rw[cZ.out,bD.out];rfl);repeat (first|go_skip|go_guarded|go_step|go_upon)
       go_ret;rw[aG.out];exact⟨rfl,does_below aC.out aM.out ⟨adr,x,aj.out⟩ bY.out⟩
      | false =>
       have aG:Hid (Z=(changeD E (movedC E p q),0)):=hid (by rw[cZ.out,bD.out];rfl);have dg:=hid (aj.out.below bY.out);have dp:Hid (ChgIn S1 bO E adr [] bB (movedC E p q)):=hid (chg_move dg.out ds.out aj.out.lt bh.out (by rw[HJ.out]))
       have CH:Hid (Calls Tryz.prog 64 #[.pointer (some ⟨P,0,none⟩),.slice bB du c5] bO (ChgPost S1 P (fun k=>∃ a,bB=some a/\a.block=k) (changeD E (movedC E p q)) adr [] bO)):=hid (by
        have:=change_any S1 bO P E adr [] bB c5 (movedC E p q) ⟨x,dg.out⟩ dp.out d4.out.1;rw[HJ.out]at this
        exact this)
       repeat (first|go_skip|go_guarded|go_step|go_upon)
       refine CH.out.mono ?_;rintro r dT ⟨rfl,⟨dO,bs,bv⟩,bm⟩;simp only[];have cj:=hid bm;have cw:=hid bs;have cJ:=hid bv;clear bm bs bv;repeat (first|go_skip|go_guarded|go_step|go_upon)
       go_ret;rw[aG.out];refine⟨rfl,does_then aC.out aM.out (((Out.refl _ w1).thenBelow bY.out).then cj.out (fun j hj hT=>hT.imp (·.1) id)) (fun k hk=>?_) ⟨adr,cJ.out⟩⟩;rcases cw.out k hk with h4|⟨a,h4,h5⟩|h4
       ·exact .inl h4
       ·refine .inr ?_;subst h4 h5;exact(bh.out.lt a.block rfl).1
       ·exact .inr (by have:=bY.out.size;omega)
   ·have cm:(e0 != 0)=true:=by simpa using ag
    have aH:(e0==0)=false:=by simpa using ag
    have aG:Hid (Z=(E,e0)):=hid (by rw[HZ.out,bw.out,if_neg ag]);clear ag;repeat (first|go_skip|go_guarded|go_step|go_upon)
    go_ret;rw[aG.out];exact⟨rfl,does_below aC.out aM.out ⟨adr,x,aj.out⟩ B7.out⟩
 ·have HZ:=hid (bx.out h0);have cm:(er != 0)=true:=by simpa using h0
  have aH:(er==0)=false:=by simpa using h0
  clear aA aR ar h0;repeat (first|go_skip|go_guarded|go_step|go_upon)
  go_ret;rw[HZ.out];exact⟨rfl,aC.out,S1,aM.out,adr,x,aj.out⟩
end DG
end
section
open Go.RowKit Go.Lib Go.BigFrame
namespace DG
open OM TP TM DP DM TG TR FP
structure DS(w W:World)(S:Nat->Prop)(P m:Nat)(D:Dk):Prop where
 disk:Disk S W P D
 lo:∀ k,S k->w.heap.size<=k
 pl:w.heap.size<=P
 bel:Below w.heap.size w W
 num:Num m D
def Aft(w W:World)(S:Nat->Prop)(P m:Nat)(D:Dk)(W':World):Prop :=
 ∃ S',DS w W' S' P m D/\(∀ k,S' k->S k\/W.heap.size<=k)/\Out (fun k=>S k\/k=P) W W'
theorem DS.aft{w W W':World}{S:Nat->Prop}{P m m':Nat}{D D':Dk}(h:DS w W S P m D)(hd:Does S P W.heap.size W D' W')(hn:Num m' D'):Aft w W S P m' D' W':=by
 obtain⟨ho,S',hs,hk⟩:=hd;have hb:=h.bel.size;refine⟨S',⟨hk,fun k h1=>?_,h.pl,?_,hn⟩,hs,ho⟩
 ·rcases hs k h1 with h2|h2
  ·exact h.lo k h2
  ·omega
 ·have u:=(Out.of_below h.bel).then ho (fun j hj hT=>by
   rcases hT with hT|hT
   ·exact h.lo j hT
   ·rw[hT];exact h.pl)
  exact u.below (fun k hk _ hT=>by omega) (Nat.le_refl _)
theorem DS.below{w W W':World}{S:Nat->Prop}{P m:Nat}{D:Dk}(h:DS w W S P m D)(hb:Below W.heap.size W W'):DS w W' S P m D :=
 ⟨h.disk.below hb,h.lo,h.pl,Below.trans h.bel (hb.mono h.bel.size),h.num⟩
theorem DS.env{w W:World}{S:Nat->Prop}{P m:Nat}{D:Dk}(h:DS w W S P m D)(he:NF.Env w):NF.Env W:=he.below h.bel
theorem DS.hi{w W:World}{S:Nat->Prop}{P m:Nat}{D:Dk}(h:DS w W S P m D)(he:NF.Env w):Hi S P :=
 ⟨fun k hk=>Nat.le_trans (env_size he) (h.lo k hk),Nat.le_trans (env_size he) h.pl⟩
theorem DS.lt{w W:World}{S:Nat->Prop}{P m:Nat}{D:Dk}(h:DS w W S P m D):P<W.heap.size/\∀ k,S k->k<W.heap.size:=by
 obtain⟨adr,x,hx⟩:=h.disk;exact⟨(Array.getElem?_eq_some_iff.1 hx.row).1,hx.lt⟩
theorem DS.np{w W:World}{S:Nat->Prop}{P m:Nat}{D:Dk}(h:DS w W S P m D):¬ S P:=by
 obtain⟨adr,x,hx⟩:=h.disk;exact hx.np
theorem DS.out{w W W':World}{S T:Nat->Prop}{P m:Nat}{D:Dk}(h:DS w W S P m D)(ho:Out T W W')(hT:∀ k,T k->¬ S k/\k≠P/\w.heap.size<=k):DS w W' S P m D :=
 ⟨h.disk.beside ho (fun k hk=>⟨(hT k hk).1,(hT k hk).2.1⟩),h.lo,h.pl,((Out.of_below h.bel).then ho (fun j _ hj=>(hT j hj).2.2)).below (fun k hk _ h2=>by omega) (Nat.le_refl _),h.num⟩
theorem num_new{t:List Nd}(h:t.length<=1000):Num 0 (newD t):=by
 refine⟨Nat.le_refl _,Nat.le_refl _,Nat.le_refl _,?_,Nat.zero_le _,(fun e he=>by cases he),(fun e he=>by cases he)⟩;show(t.map (freshI emptyD)).length<=_;rw[length_map];omega
theorem num_boot{m:Nat}{D:Dk}(h:Num m D)(fs:List Fate):Num m (bootD D fs []) :=
 ⟨h.clock,Nat.zero_le _,h.later,h.inos,Nat.zero_le _,(fun e he=>by cases he),(fun e he=>by cases he)⟩
theorem num_after{m:Nat}{D:Dk}{c:Did}{f:Dk->Dk×Int}(h:Num m D)(hf:∀ E,NumS m E->Num (m+1) (f E).1):Num (m+1) (after (stepD D c) f).1:=by
 have hs:=step_num h c;by_cases h0:(stepD D c).2=0
 ·rw[after_yes h0];exact hf _ hs
 ·rw[after_no h0];exact hs.num
theorem num_refuse{m:Nat}{e:Int}{E E':Dk}(h:NumS m E)(h':Num (m+1) E'):Num (m+1) (refuse e E E').1:=by
 unfold refuse;split
 ·exact h'
 ·exact h.num
theorem num_write{m:Nat}{D:Dk}(h:Num m D)(p dt:List UInt8)(md:Int):Num (m+1) (writeD D p dt md).1 :=
 num_after h fun E hE=>num_refuse hE (by
  unfold wroteD;refine Num.setI ?_ _ _;split
  ·exact hE.lay _ _
  ·exact hE.num)
theorem num_mkdir{m:Nat}{D:Dk}(h:Num m D)(p:List UInt8):Num (m+1) (mkdirD D p).1:=num_after h fun E hE=>num_refuse hE (hE.lay _ _)
theorem num_link{m:Nat}{D:Dk}(h:Num m D)(p q:List UInt8):Num (m+1) (linkD D p q).1:=num_after h fun E hE=>num_refuse hE (hE.lay _ _)
theorem num_remove{m:Nat}{D:Dk}(h:Num m D)(p:List UInt8):Num (m+1) (removeD D p).1:=num_after h fun E hE=>num_refuse hE (hE.change _)
theorem num_move{m:Nat}{D:Dk}(h:Num m D)(p q:List UInt8):Num (m+1) (moveD D p q).1:=num_after h fun E hE=>by
 split
 ·split
  ·exact hE.num
  ·exact hE.change _
 ·exact hE.num
theorem num_replace{m:Nat}{D:Dk}(h:Num m D)(p q:List UInt8):Num (m+1) (replaceD D p q).1:=num_after h fun E hE=>num_refuse hE (hE.change _)
theorem num_sync{m:Nat}{D:Dk}(h:Num m D)(p:List UInt8):Num (m+1) (syncD D p).1:=num_after h fun E hE=>num_refuse hE (hE.num.setI _ _)
theorem num_flush{m:Nat}{D:Dk}(h:Num m D):Num (m+1) (flushD D).1:=num_after h fun E hE=>hE.num.settle
theorem num_get{m:Nat}{D:Dk}(h:Num m D)(p:List UInt8):Num (m+1) (getD D p).1:=by
 have h1:(getD D p).1=(after (stepD D ⟨cGet,p,[]⟩) fun E=>refuse (missE E p) E E).1:=by
  unfold getD;simp only;split<;>rfl
 rw[h1];exact num_after h fun E hE=>num_refuse hE hE.num
theorem num_names{m:Nat}{D:Dk}(h:Num m D)(p:List UInt8):Num (m+1) (namesR D p).1:=num_after h fun E hE=>num_refuse hE hE.num
theorem DS.write{w W:World}{S:Nat->Prop}{P m:Nat}{D:Dk}(h:DS w W S P m D)(he:NF.Env w)(hm:m<=100000)(p dt:List UInt8)(md:Int)(hp:p.length<=maxLen) :
  Calls Tryz.prog 12 #[.pointer (some ⟨P,0,none⟩),txt p,txt dt,.int .i64 md] W fun r W'=>r=.returned (.int .i64 (writeD D p dt md).2)/\Aft w W S P (m+1) (writeD D p dt md).1 W':=by
 refine(dwrite_any S W P m D p dt md h.disk (h.env he) (h.hi he) h.num hm hp).mono ?_;rintro r W' ⟨hr,hd⟩;exact⟨hr,h.aft hd (num_write h.num p dt md)⟩
theorem DS.mkdir{w W:World}{S:Nat->Prop}{P m:Nat}{D:Dk}(h:DS w W S P m D)(he:NF.Env w)(hm:m<=100000)(p:List UInt8)(hp:p.length<=maxLen) :
  Calls Tryz.prog 72 #[.pointer (some ⟨P,0,none⟩),txt p] W fun r W'=>r=.returned (.int .i64 (mkdirD D p).2)/\Aft w W S P (m+1) (mkdirD D p).1 W':=by
 refine(dmkdir_any S W P m D p h.disk (h.env he) (h.hi he) h.num hm hp).mono ?_;rintro r W' ⟨hr,hd⟩;exact⟨hr,h.aft hd (num_mkdir h.num p)⟩
theorem DS.link{w W:World}{S:Nat->Prop}{P m:Nat}{D:Dk}(h:DS w W S P m D)(he:NF.Env w)(hm:m<=100000)(p q:List UInt8)(hp:p.length<=maxLen)(hq:q.length<=maxLen) :
  Calls Tryz.prog 73 #[.pointer (some ⟨P,0,none⟩),txt p,txt q] W fun r W'=>r=.returned (.int .i64 (linkD D p q).2)/\Aft w W S P (m+1) (linkD D p q).1 W':=by
 refine(dlink_any S W P m D p q h.disk (h.env he) (h.hi he) h.num hm hp hq).mono ?_;rintro r W' ⟨hr,hd⟩;exact⟨hr,h.aft hd (num_link h.num p q)⟩
theorem DS.remove{w W:World}{S:Nat->Prop}{P m:Nat}{D:Dk}(h:DS w W S P m D)(he:NF.Env w)(hm:m<=100000)(p:List UInt8)(hp:p.length<=maxLen) :
  Calls Tryz.prog 47 #[.pointer (some ⟨P,0,none⟩),txt p] W fun r W'=>r=.returned (.int .i64 (removeD D p).2)/\Aft w W S P (m+1) (removeD D p).1 W':=by
 refine(dremove_any S W P m D p h.disk (h.env he) (h.hi he) h.num hm hp).mono ?_;rintro r W' ⟨hr,hd⟩;exact⟨hr,h.aft hd (num_remove h.num p)⟩
theorem DS.move{w W:World}{S:Nat->Prop}{P m:Nat}{D:Dk}(h:DS w W S P m D)(he:NF.Env w)(hm:m<=100000)(p q:List UInt8)(hp:p.length<=maxLen)(hq:q.length<=maxLen) :
  Calls Tryz.prog 48 #[.pointer (some ⟨P,0,none⟩),txt p,txt q] W fun r W'=>r=.returned (.int .i64 (moveD D p q).2)/\Aft w W S P (m+1) (moveD D p q).1 W':=by
 refine(dmove_any S W P m D p q h.disk (h.env he) (h.hi he) h.num hm hp hq).mono ?_;rintro r W' ⟨hr,hd⟩;exact⟨hr,h.aft hd (num_move h.num p q)⟩
theorem DS.replace{w W:World}{S:Nat->Prop}{P m:Nat}{D:Dk}(h:DS w W S P m D)(he:NF.Env w)(hm:m<=100000)(p q:List UInt8)(hp:p.length<=maxLen)(hq:q.length<=maxLen) :
  Calls Tryz.prog 49 #[.pointer (some ⟨P,0,none⟩),txt p,txt q] W fun r W'=>r=.returned (.int .i64 (replaceD D p q).2)/\Aft w W S P (m+1) (replaceD D p q).1 W':=by
 refine(dreplace_any S W P m D p q h.disk (h.env he) (h.hi he) h.num hm hp hq).mono ?_;rintro r W' ⟨hr,hd⟩;exact⟨hr,h.aft hd (num_replace h.num p q)⟩
theorem DS.sync{w W:World}{S:Nat->Prop}{P m:Nat}{D:Dk}(h:DS w W S P m D)(he:NF.Env w)(hm:m<=100000)(p:List UInt8)(hp:p.length<=maxLen) :
  Calls Tryz.prog 50 #[.pointer (some ⟨P,0,none⟩),txt p] W fun r W'=>r=.returned (.int .i64 (syncD D p).2)/\Aft w W S P (m+1) (syncD D p).1 W':=by
 refine(dsync_any S W P m D p h.disk (h.env he) (h.hi he) h.num hm hp).mono ?_;rintro r W' ⟨hr,hd⟩;exact⟨hr,h.aft hd (num_sync h.num p)⟩
theorem DS.flush{w W:World}{S:Nat->Prop}{P m:Nat}{D:Dk}(h:DS w W S P m D)(he:NF.Env w)(hm:m<=100000) :
  Calls Tryz.prog 51 #[.pointer (some ⟨P,0,none⟩)] W fun r W'=>r=.returned (.int .i64 (flushD D).2)/\Aft w W S P (m+1) (flushD D).1 W':=by
 refine(dflush_any S W P m D h.disk (h.env he) (h.hi he) h.num hm).mono ?_;rintro r W' ⟨hr,hd⟩;exact⟨hr,h.aft hd (num_flush h.num)⟩
theorem DS.get{w W:World}{S:Nat->Prop}{P m:Nat}{D:Dk}(h:DS w W S P m D)(he:NF.Env w)(hm:m<=100000)(p:List UInt8)(hp:p.length<=maxLen) :
  Calls Tryz.prog 74 #[.pointer (some ⟨P,0,none⟩),txt p] W fun r W'=>r=.returned (.tuple #[ndVal (getD D p).2.1,stampVal (getD D p).2.2.1,.int .i64 (getD D p).2.2.2])/\Aft w W S P (m+1) (getD D p).1 W':=by
 refine(dget_any S W P m D p h.disk (h.env he) (h.hi he) h.num hm hp).mono ?_;rintro r W' ⟨hr,hd⟩;exact⟨hr,h.aft hd (num_get h.num p)⟩
def AftN(w W:World)(S:Nat->Prop)(P m:Nat)(D:Dk)(v:Value)(W':World):Prop :=
 ∃ S',DS w W' S' P m D/\(∀ k,S' k->S k\/W.heap.size<=k)/\Out (fun k=>S k\/k=P) W W'/\∀ g,v.ownBlock=some g->¬ S' g/\g≠P
theorem DS.names{w W:World}{S:Nat->Prop}{P m:Nat}{D:Dk}(h:DS w W S P m D)(he:NF.Env w)(hm:m<=100000)(p:List UInt8)(hp:p.length<=maxLen) :
  Calls Tryz.prog 75 #[.pointer (some ⟨P,0,none⟩),txt p] W fun r W'=>∃ v,r=.returned (.tuple #[v,.int .i64 (namesR D p).2])/\W'.ownsRow W.heap.size 9 1 v (lastsR (namesR D p) p).length ((lastsR (namesR D p) p).map txt)/\AftN w W S P (m+1) (namesR D p).1 v W':=by
 refine(dnames_any S W P m D p h.disk (h.env he) (h.hi he) h.num hm hp).mono ?_;rintro r W' ⟨v,hr,ho,hu,S',hs,hd,hg⟩;refine⟨v,hr,ho,?_⟩;have hb:=h.bel.size;refine⟨S',⟨hd,fun k h1=>?_,h.pl,?_,num_names h.num p⟩,hs,hu,hg⟩
 ·rcases hs k h1 with h2|h2
  ·exact h.lo k h2
  ·omega
 ·have u:=(Out.of_below h.bel).then hu (fun j hj hT=>by
   rcases hT with hT|hT
   ·exact h.lo j hT
   ·rw[hT];exact h.pl)
  exact u.below (fun k hk _ hT=>by omega) (Nat.le_refl _)
theorem DS.on{w W:World}{S:Nat->Prop}{P m:Nat}{D:Dk}(h:DS w W S P m D) :
  Calls Tryz.prog 13 #[.pointer (some ⟨P,0,none⟩)] W fun r w'=>r=.returned (.bool (!D.off))/\W=w':=by
 obtain⟨adr,x,hx⟩:=h.disk;exact on_any W P (!D.off) _ _ _ _ _ _ _ _ hx.row
theorem DS.steps{w W:World}{S:Nat->Prop}{P m:Nat}{D:Dk}(h:DS w W S P m D) :
  Calls Tryz.prog 14 #[.pointer (some ⟨P,0,none⟩)] W fun r w'=>r=.returned (.int .i64 (D.trace.length:Nat))/\W=w':=by
 obtain⟨adr,x,hx⟩:=h.disk;obtain⟨ao,c,hv,_⟩:=owns_view hx.rest.trace;have hr:=hx.row;unfold diskC at hr;rw[hv]at hr;exact steps_any W P ao D.trace.length c _ _ _ _ _ _ _ _ hr
theorem DS.tree{w W:World}{S:Nat->Prop}{P m:Nat}{D:Dk}(h:DS w W S P m D) :
  Calls Tryz.prog 15 #[.pointer (some ⟨P,0,none⟩)] W (TR.AtPost (treeD D) W):=tree_of S W P D h.disk
theorem DS.boot{w W:World}{S:Nat->Prop}{P m:Nat}{D:Dk}(h:DS w W S P m D)(fs:List Fate)(af:Option Addr)(cf:Nat)(hf:∀ ad,af=some ad->∀(j:Nat) (u:Value),(fatesC fs)[j]?=some u->W.cell? (ad.add j)=some u)
  (hff:∀ ad,af=some ad->ad.block≠P/\ad.block<W.heap.size) (bV:af=none->fs.length=0/\cf=0) (hl:fs.length<=1048576) :
  Calls Tryz.prog 17 #[.pointer (some ⟨P,0,none⟩),.slice af fs.length cf,.slice none 0 0] W fun r W'=>r=.returned (.tuple #[])/\Aft w W S P m (bootD D fs []) W':=by
 refine(dboot_nil S W P D fs af cf h.disk hf hff bV hl).mono ?_;rintro r W' ⟨hr,hd⟩;exact⟨hr,h.aft hd (num_boot h.num fs)⟩
theorem DS.boot0{w W:World}{S:Nat->Prop}{P m:Nat}{D:Dk}(h:DS w W S P m D) :
  Calls Tryz.prog 17 #[.pointer (some ⟨P,0,none⟩),.slice none 0 0,.slice none 0 0] W fun r W'=>r=.returned (.tuple #[])/\Aft w W S P m (bootD D [] []) W' :=
 h.boot [] none 0 (fun _ h=>by cases h) (fun _ h=>by cases h) (fun _=>⟨rfl,rfl⟩) (by simp)
theorem DS.boot1{w W W1:World}{S:Nat->Prop}{P m:Nat}{D:Dk}(h:DS w W S P m D)(f:Fate)(hw:W1=W.alloc (.cells #[.int .i64 f.at_,.int .i64 f.what,.int .i64 f.keep,.int .i64 f.torn] 116)) :
  Calls Tryz.prog 17 #[.pointer (some ⟨P,0,none⟩),.slice (some ⟨W.heap.size,0,none⟩) 1 1,.slice none 0 0] W1 fun r W'=>r=.returned (.tuple #[])/\Aft w W S P m (bootD D [f] []) W':=by
 have hb:Below W.heap.size W W1:=by rw[hw];exact(Below.refl _ _).alloc (Nat.le_refl _) _
 have hr:W1.heap[W.heap.size]?=some (.cells #[.int .i64 f.at_,.int .i64 f.what,.int .i64 f.keep,.int .i64 f.torn] 116 (0,0)):=by rw[hw];exact heap_alloc_new W _
 obtain⟨c0,c1,c2,c3,_⟩:=row4 hr;have hz:W.heap.size<W1.heap.size:=(Array.getElem?_eq_some_iff.1 hr).1;refine((h.below hb).boot [f] (some ⟨W.heap.size,0,none⟩) 1 (fun ad ha j u hu=>?_) (fun ad ha=>?_) (fun e=>by cases e) (by simp)).mono ?_
 ·injection ha with ha;subst ha;have e1:(⟨W.heap.size,0,none⟩:Addr).add j=⟨W.heap.size,j,none⟩:=by simp[Addr.add];omega
  rw[e1]
  match j with
  | 0=>exact c0.trans hu
  | 1=>exact c1.trans hu
  | 2=>exact c2.trans hu
  | 3=>exact c3.trans hu
  | j+4=>simp[fatesC,fateC]at hu
 ·injection ha with ha;subst ha;have:=h.lt.1;exact⟨by show W.heap.size≠P;omega,hz⟩
 ·rintro r W' ⟨hr,S',hd,hs,ho⟩;exact⟨hr,S',hd,fun k hk=>(hs k hk).imp id (fun h=>by omega),((Out.refl _ W).thenBelow hb).then ho (fun _ _ h=>h)⟩
theorem new_ds{t:List Nd}{w:World}{ao:Option Addr}{cap:Nat}(he:NF.Env w)(hw:TW.Wide w ao cap t)(ht:treeB t=true) :
  Calls Tryz.prog 10 #[.slice ao t.length cap] w fun r w'=>∃ S P,r=.returned (.tuple #[.pointer (some ⟨P,0,none⟩),.int .i64 0])/\DS w w' S P 0 (newD t):=by
 refine(dnew_any ao cap t w he hw).mono ?_;rintro r w' ⟨h1,_,hb⟩;obtain⟨S,P,hr,hp,hs,hd⟩:=h1 ht;exact⟨S,P,hr,hd,hs,hp,hb,num_new ((tree_iff t).1 ht).len⟩
end DG
end
end Go.Proofs.YtkmcjededpamnaaGreatDoor
