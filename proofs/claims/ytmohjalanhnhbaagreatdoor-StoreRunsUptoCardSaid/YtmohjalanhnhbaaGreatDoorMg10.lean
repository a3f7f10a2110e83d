/- Texts of this seat, put one behind the other: what its statements share (part 10). -/
import Derived.Test.YtmohjalanhnhbaaGreatDoorMg9
import Derived.Test.YtmohjalanhnhbaaGreatDoorMg8
import Derived.Test.YtmohjalanhnhbaaGreatDoorMg3
import Derived.Test.YtmohjalanhnhbaaGreatDoorMg6
import Derived.Test.YtmohjalanhnhbaaGreatDoorMg7
set_option linter.all false
set_option maxRecDepth 100000
set_option maxHeartbeats 25600000
section
namespace Go.Proofs.YtmohjalanhnhbaaGreatDoor
open Go.RowKit Go.Lib Go.BigFrame
namespace DG
open OM TP TM DP DM TG TR FP
end DG
end Go.Proofs.YtmohjalanhnhbaaGreatDoor
end

section
namespace Go.Proofs.YtmohjalanhnhbaaGreatDoor
open Go.RowKit Go.Lib Go.BigFrame
namespace DG
open OM TP TM DP DM TG TR FP
theorem new_names (t:List Nd):(newD t).names=t.mapIdx (fun i n=>en n.path ((1+i:Nat):Int)):=by
 show freshes emptyD t=_
 unfold freshes
 congr 1
end DG
end Go.Proofs.YtmohjalanhnhbaaGreatDoor
end

section
namespace Go.Proofs.YtmohjalanhnhbaaGreatDoor
open Go.RowKit Go.Lib Go.BigFrame
namespace DG
open OM TP TM DP DM TG TR FP
theorem step_app_eq {P:Program} {w:World} {ops:Array Oper} {o:Oper} {a:Act} {K:Act->World->Prop} {Q:Exit->Act->World->Prop} {E:Prop} (hgd:o.guard=none) (s x:Operand) (t t2:TypeId)
  (ho:o.op=.call { callee:=.builtin .append,args:=#[s,x],argTypes:=#[t,t2] }) (u v:Value) (hs:a.eval s=u) (hx:a.eval x=v) {v':Value} {w':World}
  (hr:(Builtin.append_ #[t,t2] o.type #[u,v]).run P w=.ok v' w') (h:K (a.put o.dst v') w'):if Region.wanted o (yielded ops a.tmps)=true then Oper.wp P o a w K Q else E:=by
 have hw:Region.wanted o (yielded ops a.tmps)=true:=by simp [Region.wanted,hgd]
 rw [if_pos hw]
 unfold Oper.wp execOp
 simp only [ho,resolve,invoke,builtin,Sem.run_bind,Sem.run_pure,Result.andThen_ok,List.map_toArray,List.map_cons,List.map_nil,hs,hx,hr]
 exact h
structure NewAt (W:World) (P:Nat) (t:List Nd) (k:Nat) (v:Value) (adr:Int->Nat):Prop where
 row:W.heap[P]?=some (.cells #[v,.slice none 0 0,.slice none 0 0,.bool true,.int .i64 (k:Nat),.int .i64 (0:Nat),.slice none 0 0,.slice none 0 0,.slice none 0 0] 122 (0,0))
 own:W.ownsRow (P+1) 125 2 v k (ensC adr (freshes emptyD (t.take k)))
 ino:∀ (j:Nat) (x:Nd),j<k->t[j]?=some x->P<adr ((j+1:Nat):Int)/\InoAt W (adr ((j+1:Nat):Int)) ((j+1:Nat):Int) (freshI emptyD x)
 inj:∀ i j:Nat,i<k->j<k->adr ((i+1:Nat):Int)=adr ((j+1:Nat):Int)->i=j
theorem NewAt.below {W W':World} {P k:Nat} {t:List Nd} {v:Value} {adr:Int->Nat} (h:NewAt W P t k v adr) (hb:Below W.heap.size W W'):NewAt W' P t k v adr :=
 ⟨(hb.block P (Array.getElem?_eq_some_iff.1 h.row).1).trans h.row,owns_below h.own hb,fun j x hj hx=>⟨(h.ino j x hj hx).1,inoAt_below (h.ino j x hj hx).2 hb⟩,h.inj⟩
theorem fresh_kind {t:List Nd} {k:Nat}:∀ e∈freshes emptyD (t.take k),∃ j:Nat,j<k/\e.kind=((j+1:Nat):Int):=fun e he=>by
 unfold freshes at he
 obtain⟨i,hi,rfl⟩:=List.mem_mapIdx.1 he
 refine⟨i,?_,?_⟩
 ·have:=hi;rw [List.length_take] at this;omega
 ·show (((0:Nat)+1+i:Nat):Int)=_
  omega
theorem fresh_more {t:List Nd} {k:Nat} {x:Nd} (hx:t[k]?=some x):freshes emptyD (t.take (k+1))=freshes emptyD (t.take k)++[en x.path ((k+1:Nat):Int)]:=by
 have hk:=(List.getElem?_eq_some_iff.1 hx).1
 unfold freshes
 rw [List.take_add_one,hx,Option.toList_some,List.mapIdx_concat]
 have h2:(t.take k).length=k:=by rw [List.length_take];omega
 have e:((emptyD.inos.length+1+k:Nat):Int)=((k+1:Nat):Int):=by
  show (((0:Nat)+1+k:Nat):Int)=_
  omega
 rw [h2,e]
theorem new_step {W0 W2:World} {P k:Nat} {t:List Nd} {x:Nd} {v:Value} {adr:Int->Nat} {X:ByteArray} (h:NewAt W0 P t k v adr) (hx:t[k]?=some x) (hk:k<1000) (hX:txt x.path=.string X)
  (hf:FreshW W0 P x v (.slice none 0 0) (.slice none 0 0) (.slice none 0 0) (.slice none 0 0) (.slice none 0 0) true k 0 W2) :
  ∃ a' c' W3,(Builtin.append_ #[119,119] 119 #[v,.slice (some ⟨W2.heap.size,0,none⟩) 1 1]).run Tryz.prog (W2.alloc (.cells #[.string X,.pointer (some ⟨W0.heap.size+2,0,none⟩)] 125))=.ok (.slice a' (k+1:Nat) c') W3 /\
   W3.heap[P]?=some (.cells #[v,.slice none 0 0,.slice none 0 0,.bool true,.int .i64 ((k+1:Nat):Int),.int .i64 (0:Nat),.slice none 0 0,.slice none 0 0,.slice none 0 0] 122 (0,0)) /\
   Out (fun j=>P<=j/\(j=P∨v.ownBlock=some j)) W0 W3/\NewAt (W3.setCell ⟨P,0,none⟩ (.slice a' (k+1:Nat) c')) P t (k+1) (.slice a' (k+1:Nat) c') (updA adr (k+1) (W0.heap.size+2)):=by
 obtain⟨i0,hi0,hz0,hz1,hz2⟩:=info_parts infoE
 have hne:∀ g,v.ownBlock=some g->g≠P:=fun g hg=>by have:=(h.own.lt g hg).1;omega
 have o2:=(hf.out.owns h.own hne).alloc (.cells #[.string X,.pointer (some ⟨W0.heap.size+2,0,none⟩)] 125)
 have hadr:∀ e∈freshes emptyD (t.take k),updA adr (k+1) (W0.heap.size+2) e.kind=adr e.kind:=fun e he=>by
  obtain⟨j,hj,hjk⟩:=fresh_kind e he
  exact updA_old _ _ _ (by rw [hjk];omega)
 rw [<- ens_adr hadr] at o2
 have hp:ptrV (updA adr (k+1) (W0.heap.size+2)) ((k+1:Nat):Int)=.pointer (some ⟨W0.heap.size+2,0,none⟩):=by
  rw [ptr_pos _ (by omega),updA_new]
 have hnew:=two_new W2 W2.heap.size rfl (updA adr (k+1) (W0.heap.size+2)) (en x.path ((k+1:Nat):Int)) (.string X) (.pointer (some ⟨W0.heap.size+2,0,none⟩)) hX hp 125
 have hPl:P<W0.heap.size:=(Array.getElem?_eq_some_iff.1 h.row).1
 have hs2:=hf.out.size
 obtain⟨v',W3,hr,ho,hg,_⟩:=run_append_own (P:=Tryz.prog) (w:=W2.alloc (.cells #[.string X,.pointer (some ⟨W0.heap.size+2,0,none⟩)] 125)) (P+1) 119 119 125 i0 (.agg #[.string ⟨#[]⟩,.pointer none]) 2 24 (by kernel_rfl) hi0 hz0 hz1 hz2 rfl (by decide) v k _ o2 ⟨W2.heap.size,0,none⟩ 1 1
  (enCells (updA adr (k+1) (W0.heap.size+2)) (en x.path ((k+1:Nat):Int))) rfl hnew (en_one _ _) (by unfold maxLen;omega) (by omega) (by simp;omega)
 obtain⟨a',c',hv',_⟩:=owns_view ho
 subst hv'
 have u3:Out (fun j=>v.ownBlock=some j) W2 W3:=((Out.refl _ W2).alloc _).grown hg (fun j hj _=>hj)
 have hrow:W3.heap[P]?=some (.cells #[v,.slice none 0 0,.slice none 0 0,.bool true,.int .i64 ((k+1:Nat):Int),.int .i64 (0:Nat),.slice none 0 0,.slice none 0 0,.slice none 0 0] 122 (0,0)):=u3.row hf.row (fun e=>hne _ e rfl)
 have hty:∀ g,v.ownBlock=some g->IsT W2 g 125:=fun g hg=>by
  obtain⟨c,fz,h1⟩:=own_type h.own g hg
  exact⟨c,fz,hf.out.row h1 (hne g hg)⟩
 have hino:∀ (g:Nat) (z:Int) (i:Ino),P<g->InoAt W2 g z i->InoAt (W3.setCell ⟨P,0,none⟩ (.slice a' (k+1:Nat) c')) g z i:=fun g z i hg hi=>by
  unfold InoAt at hi ⊢
  rw [set_other _ P 0 g _ (by omega)]
  refine u3.row hi (fun e=>?_)
  exact (ino_type hi).ne (hty g e) (by decide) rfl
 refine⟨a',c',W3,hr,hrow,?_,⟨row_set (j:=0) hrow _,?_,fun j y hj hy=>?_,fun i j hi hj he=>?_⟩⟩
 ·refine (hf.out.mono (T:=fun j=>P<=j/\(j=P∨v.ownBlock=some j)) (fun j _ e=>?_)).then u3 (fun j hj e=>?_)
  ·subst e
   exact⟨Nat.le_refl _,.inl rfl⟩
  ·exact⟨by have:=(h.own.lt j e).1;omega,.inr e⟩
 ·rw [fresh_more hx,ens_snoc]
  exact own_same ho fun g hg=>set_other _ P 0 g _ (by have:=(ho.lt g hg).1;omega)
 ·by_cases e:j=k
  ·subst e
   rw [hx] at hy
   injection hy with hy
   subst hy
   rw [updA_new]
   exact⟨by omega,hino _ _ _ (by omega) hf.ino⟩
  ·have hjk:j<k:=by omega
   obtain⟨h1,h2⟩:=h.ino j y hjk hy
   rw [updA_old _ _ _ (by omega)]
   refine⟨h1,hino _ _ _ h1 ?_⟩
   unfold InoAt at h2 ⊢
   exact hf.out.row h2 (by omega)
 ·have hlt:∀ j,j<k->adr ((j+1:Nat):Int)<W0.heap.size:=fun j hj=>by
   have hjt:j<t.length:=by have:=(List.getElem?_eq_some_iff.1 hx).1;omega
   obtain⟨_,h2⟩:=h.ino j t[j] hj (List.getElem?_eq_getElem hjt)
   exact (Array.getElem?_eq_some_iff.1 h2).1
  by_cases e1:i=k
  ·by_cases e2:j=k
   ·omega
   ·subst e1
    rw [updA_new,updA_old _ _ _ (by omega)] at he
    have:=hlt j (by omega)
    omega
  ·by_cases e2:j=k
   ·subst e2
    rw [updA_new,updA_old _ _ _ (by omega)] at he
    have:=hlt i (by omega)
    omega
   ·rw [updA_old _ _ _ (by omega),updA_old _ _ _ (by omega)] at he
    exact h.inj i j (by omega) (by omega) he
theorem freshes_all (t:List Nd):freshes emptyD t=(newD t).names:=rfl
theorem new_kind {t:List Nd}:∀ e∈(newD t).names,∃ (j:Nat) (x:Nd),t[j]?=some x/\e=en x.path ((j+1:Nat):Int):=fun e he=>by
 rw [new_names] at he
 obtain⟨i,hi,rfl⟩:=List.mem_mapIdx.1 he
 exact⟨i,t[i],List.getElem?_eq_getElem hi,by rw [show ((1+i:Nat):Int)=((i+1:Nat):Int) by omega]⟩
theorem new_ino {t:List Nd} {j:Nat} {x:Nd} (hx:t[j]?=some x):inoOf (newD t).inos ((j+1:Nat):Int)=freshI emptyD x:=by
 unfold inoOf
 rw [show (((j+1:Nat):Int).toNat-1)=j by omega,List.getD_eq_getElem?_getD]
 show ((t.map (freshI emptyD))[j]?).getD inoZ=_
 rw [List.getElem?_map,hx]
 rfl
theorem new_row {t:List Nd} (h:Tree t):Row (newD t).inos.length (newD t).names:=by
 have hlen:(newD t).inos.length=t.length:=by show (t.map _).length=_;simp
 have hl:(newD t).names.length=t.length:=by rw [new_names];simp
 refine⟨?_,fun e he=>?_,by rw [hl];exact h.len,fun e he=>?_⟩
 ·unfold Sorted
  rw [List.pairwise_iff_getElem]
  intro i j hi hj hij
  have h1:=List.pairwise_iff_getElem.1 h.sorted i j (by omega) (by omega) hij
  have e1:∀ (k:Nat) (hk:k<(newD t).names.length) (hk2:k<t.length),((newD t).names[k]).path=t[k].path:=fun k hk hk2=>by
   simp only [new_names,List.getElem_mapIdx]
   rfl
  unfold lt at h1 ⊢
  rw [e1 i hi (by omega),e1 j hj (by omega)]
  exact h1
 ·obtain⟨j,x,hx,rfl⟩:=new_kind e he
  exact h.path x (List.mem_of_getElem? hx)
 ·obtain⟨j,x,hx,rfl⟩:=new_kind e he
  have:=(List.getElem?_eq_some_iff.1 hx).1
  exact⟨j+1,rfl,by omega,by omega⟩
theorem new_fit {t:List Nd} (h:Tree t):Fit (newD t):=by
 refine⟨new_row h,new_row h,(fun l hl=>by cases hl),fun i hi=>?_⟩
 obtain⟨n,hn,rfl⟩:=List.mem_map.1 (show i∈t.map (freshI emptyD) from hi)
 exact right_data (h.right n hn)
theorem settle_row (w:World) (p:Nat) (adr:Int->Nat) (ns:List Nd) (vn vs vc vf ve vt:Value) (bo:Bool) (lz cz:Nat) (hr:w.heap[p]?=some (.cells #[vn,vs,vc,.bool bo,.int .i64 (lz:Nat),.int .i64 (cz:Nat),vf,ve,vt] 122 (0,0))) (hv:OwnE w adr vn ns) (hlen:ns.length<=1000) :
  Calls Tryz.prog 55 #[.pointer (some ⟨p,0,none⟩)] w fun r w'=>r=.returned (.tuple #[])/\∃ v1,w'.heap[p]?=some (.cells #[vn,v1,.slice none 0 0,.bool bo,.int .i64 (lz:Nat),.int .i64 (cz:Nat),vf,ve,vt] 122 (0,0))/\OwnE w' adr v1 ns/\(∀ g,v1.ownBlock=some g->w.heap.size<=g)/\Out (fun k=>k=p) w w':=by
 have hpl:=(Array.getElem?_eq_some_iff.1 hr).1
 obtain⟨ao,cap,hvn,hlay,hcap,hno,hbk⟩:=layE_own hv
 have CC:Hid (Calls Tryz.prog 116 #[.slice ao ns.length cap] w (ClPost 125 2 ns.length (ensC adr ns) w)):=Lib.hid (clE_any ao ns.length cap (ensC adr ns) w (fun ad ha=>by subst ha;exact layE_cells hlay) (ens_len _ _) (ens_one _ _) (fun ha=>by
  have:=hno ha
  omega) (by omega))
 obtain⟨n,hn⟩:∃ n,ns.length=n:=⟨_,rfl⟩
 have HN:=Lib.hid hn
 rw [hvn] at hr
 rw [hvn]
 rw [hn] at CC hr ⊢
 have HR:=Lib.hid hr
 obtain⟨c0,c1,c2,-,-,-,-,-,-,cf⟩:=row9 hr
 clear hv hvn hlay hcap hno hbk hlen hn hr
 go_enter Tryz.func55,Tryz.ntmps55
 repeat (first|(go_at_call 116;fail)|go_skip|go_guarded|go_step|go_upon)
 refine CC.out.mono ?_
 rintro r w1 ⟨v1,rfl,ho1,hb1⟩
 simp only []
 obtain⟨a1,k1,hv1,hx1⟩:=owns_view ho1
 clear hx1
 subst hv1
 have HO1:=Lib.hid ho1
 have HB1:=Lib.hid hb1
 have R1:Hid (w1.heap[p]?=some (.cells #[.slice ao n cap,vs,vc,.bool bo,.int .i64 (lz:Nat),.int .i64 (cz:Nat),vf,ve,vt] 122 (0,0))):=Lib.hid ((hb1.block p hpl).trans HR.out)
 have hp1:p<w1.heap.size:=Nat.lt_of_lt_of_le hpl hb1.size
 obtain⟨c0,c1,c2,-,-,-,-,-,-,cf⟩:=row9 R1.out
 clear ho1 hb1
 repeat (first|go_skip|go_guarded|go_step|go_upon)
 go_end0
 have hrow:=row_set (j:=2) (row_set (j:=1) R1.out (.slice a1 n k1)) (.slice none 0 0)
 have hoth:∀ k,k≠p->((w1.setCell ⟨p,1,none⟩ (.slice a1 n k1)).setCell ⟨p,2,none⟩ (.slice none 0 0)).heap[k]?=w1.heap[k]?:=fun k hk=>(set_other _ p 2 k _ hk).trans (set_other _ p 1 k _ hk)
 refine⟨rfl,.slice a1 n k1,hrow,?_,fun g hg=>(HO1.out.lt g hg).1,?_⟩
 ·refine own_same (owns_base (base:=w.heap.size) ?_ 0 (Nat.zero_le _)) (fun g hg=>hoth g (fun e=>?_))
  ·rw [HN.out];exact HO1.out
  ·have:=(HO1.out.lt g hg).1
   omega
 ·have u0:Out (fun k=>k=p) w w1:=(Out.of_below HB1.out).mono (fun k hk hB=>absurd hB (by omega))
  exact (u0.setCell (p:=⟨p,1,none⟩) (fun _=>rfl) _).setCell (p:=⟨p,2,none⟩) (fun _=>rfl) _
theorem new_disk {W W':World} {P:Nat} {t:List Nd} {v v1:Value} {adr:Int->Nat} (ht:Tree t) (h:NewAt W P t t.length v adr)
  (hr:W'.heap[P]?=some (.cells #[v,v1,.slice none 0 0,.bool true,.int .i64 (t.length:Nat),.int .i64 (0:Nat),.slice none 0 0,.slice none 0 0,.slice none 0 0] 122 (0,0))) (ho:OwnE W' adr v1 (newD t).names) (hg:∀ g,v1.ownBlock=some g->W.heap.size<=g) (hu:Out (fun k=>k=P) W W') :
  Disk (fun k=>P<k/\k<W'.heap.size) W' P (newD t):=by
 have hPl:P<W.heap.size:=(Array.getElem?_eq_some_iff.1 h.row).1
 have hs:=hu.size
 have hlen:(newD t).inos.length=t.length:=by show (t.map _).length=_;simp
 have hown:=h.own
 rw [List.take_length,freshes_all] at hown
 have hnl:(newD t).names.length=t.length:=by rw [new_names];simp
 have hnames:OwnE W' adr v (newD t).names:=by
  unfold OwnE
  rw [hnl]
  exact owns_base (hu.owns hown (fun g hg=>by have:=(hown.lt g hg).1;omega)) 0 (Nat.zero_le _)
 have hlive:∀ e∈[]++liveL (newD t),∃ (j:Nat) (x:Nd),t[j]?=some x/\e=en x.path ((j+1:Nat):Int):=fun e he=>by
  refine new_kind e ?_
  have he':e∈(newD t).names++((newD t).names++[]):=he
  simp only [List.append_nil,List.mem_append,or_self] at he'
  exact he'
 have hadr:∀ (j:Nat) (x:Nd),t[j]?=some x->P<adr ((j+1:Nat):Int)/\InoAt W' (adr ((j+1:Nat):Int)) ((j+1:Nat):Int) (freshI emptyD x):=fun j x hx=>by
  obtain⟨h1,h2⟩:=h.ino j x (List.getElem?_eq_some_iff.1 hx).1 hx
  refine⟨h1,?_⟩
  unfold InoAt at h2 ⊢
  exact hu.row h2 (by omega)
 refine⟨adr,⟨v,v1,.slice none 0 0,.slice none 0 0,.slice none 0 0,.slice none 0 0,[],[]⟩,?_,?_,fun k hk=>hk.2,fun hk=>by omega,new_fit ht⟩
 ·unfold diskC
  rw [hlen]
  exact hr
 ·exact {
   names:=hnames
   nin:=fun g hg=>by
    have:=(hown.lt g hg).1
    have:=own_lt hnames g hg
    exact⟨by omega,this⟩
   safe:=ho
   sin:=fun g hg2=>by
    have:=hg g hg2
    exact⟨by omega,own_lt ho g hg2⟩
   apart:=fun g hg1 hg2=>by
    have h1:=(hown.lt g hg1).2
    have h2:=hg g hg2
    omega
   ch:=World.ownsRow_nil _ _ _ _
   chin:=fun g hg=>by cases hg
   each:=fun e he=>by cases he
   crow:=fun e he=>by cases he
   later:=rfl
   ends:=rfl
   lens:=fun j c hc=>by cases hc
   inos:=fun e he h0=>by
    obtain⟨j,x,hx,rfl⟩:=hlive e he
    show InoAt W' (adr ((j+1:Nat):Int)) ((j+1:Nat):Int) (inoOf (newD t).inos ((j+1:Nat):Int))
    rw [new_ino hx]
    exact (hadr j x hx).2
   iin:=fun e he h0=>by
    obtain⟨j,x,hx,rfl⟩:=hlive e he
    exact⟨(hadr j x hx).1,(Array.getElem?_eq_some_iff.1 (hadr j x hx).2).1⟩
   inj:=fun e he f hf h0 h1 h2=>by
    obtain⟨i,x,hx,rfl⟩:=hlive e he
    obtain⟨j,y,hy,rfl⟩:=hlive f hf
    have:=h.inj i j (List.getElem?_eq_some_iff.1 hx).1 (List.getElem?_eq_some_iff.1 hy).1 h2
    subst this
    rfl
   fates:=World.ownsRow_nil _ _ _ _
   fin:=fun g hg=>by cases hg
   edits:=World.ownsRow_nil _ _ _ _
   ein:=fun g hg=>by cases hg
   elen:=rfl
   vals:=fun j e v he hv=>by cases he
   trace:=World.ownsRow_nil _ _ _ _
   tin:=fun g hg=>by cases hg }
end DG
end Go.Proofs.YtmohjalanhnhbaaGreatDoor
end

section
namespace Go.Proofs.YtmohjalanhnhbaaGreatDoor
open Go.RowKit Go.Lib Go.BigFrame
namespace DG
open OM TP TM DP DM TG TR FP
def NewPost (t:List Nd) (w:World) (r:Ending) (w':World):Prop :=
 (treeB t=true->∃ S P,r=.returned (.tuple #[.pointer (some ⟨P,0,none⟩),.int .i64 0])/\w.heap.size<=P/\(∀ k,S k->w.heap.size<=k)/\Disk S w' P (newD t))/\(treeB t=false->r=.returned (.tuple #[.pointer none,.int .i64 60]))/\Below w.heap.size w w'
def NewInv (w1:World) (P n:Nat) (t:List Nd) (s17:Value) (wr:World):Prop :=
 ∃ (k:Nat) (v:Value) (adr:Int->Nat),s17=.int .i64 k/\k<=n/\NewAt wr P t k v adr/\Below P w1 wr
theorem dnew_yes (ao:Option Addr) (cap:Nat) (t:List Nd) (w:World) (he:NF.Env w) (hw:TW.Wide w ao cap t) (ht:Tree t) :
  Calls Tryz.prog 10 #[.slice ao t.length cap] w fun r w'=>(∃ S P,r=.returned (.tuple #[.pointer (some ⟨P,0,none⟩),.int .i64 0])/\w.heap.size<=P/\(∀ k,S k->w.heap.size<=k)/\Disk S w' P (newD t))/\Below w.heap.size w w':=by
 have CC:=Lib.hid (TW.Wide.check he hw)
 rw [show (checkG t:Nat)=0 from check_yes ((tree_iff t).2 ht)] at CC
 have HLay:=Lib.hid hw.lay
 have HT:=Lib.hid ht
 have hlen:=ht.len
 obtain⟨n,hn⟩:∃ n,t.length=n:=⟨_,rfl⟩
 have HN:=Lib.hid hn
 rw [hn] at CC hlen ⊢
 clear he hw ht hn
 go_enter Tryz.func10,Tryz.ntmps10
 repeat (first|(go_at_call 53;fail)|go_skip|go_guarded|go_step|go_upon)
 refine CC.out.mono ?_
 rintro r w1 ⟨rfl,hb1⟩
 simp only []
 have B1:=Lib.hid hb1
 clear hb1
 rw [show (((0:Nat):Int))=0 from rfl]
 repeat (first|go_skip|go_guarded|go_step|go_upon)
 go_loopw [17] (fun s17 wr=>NewInv w1 w1.heap.size n t s17 wr) (fun s17 _=>n-(Go.RowKit.intOf s17).toNat)
 case atStart =>
  refine⟨0,.slice none 0 0,fun _=>0,rfl,Nat.zero_le _,⟨heap_alloc_new w1 _,World.ownsRow_nil _ _ _ _,fun j x hj=>absurd hj (by omega),fun i j hi=>absurd hi (by omega)⟩,(Below.refl _ _).alloc (Nat.le_refl _) _⟩
 case round =>
  obtain⟨k,v,adr,rfl,hk,hat,hbl⟩:=hrel
  have HAt:=Lib.hid hat
  have HBl:=Lib.hid hbl
  by_cases hlt:k<n
  ·have hkz:(k:Int)<n:=by omega
   obtain⟨g,o,rfl,hg,hc⟩:=HLay.out (by rw [HN.out];omega)
   obtain⟨x,hx⟩:∃ x,t[k]?=some x:=⟨t[k]'(by rw [HN.out];exact hlt),List.getElem?_eq_getElem _⟩
   have hgw:g<w1.heap.size:=Nat.lt_of_lt_of_le hg B1.out.size
   obtain⟨e0,e1,e2,e3⟩:=((hc k x hx).below hg B1.out).below (W':=wr) hgw hbl
   obtain⟨X,hX,_⟩:=txt_of x.path
   obtain⟨Y,hY,_⟩:=txt_of x.data
   rw [hX] at e0
   rw [hY] at e2
   have RV:=heap_alloc_new wr (.cells #[.string X,.int .i64 x.kind,.string Y,.int .i64 x.mode] 45)
   have bW:Below wr.heap.size wr (wr.alloc (.cells #[.string X,.int .i64 x.kind,.string Y,.int .i64 x.mode] 45)):=(Below.refl _ _).alloc (Nat.le_refl _) _
   obtain⟨kd,hkd⟩:∃ z,x.kind=z:=⟨_,rfl⟩
   obtain⟨md,hmd⟩:∃ z,x.mode=z:=⟨_,rfl⟩
   rw [hkd,hmd] at bW RV
   rw [hkd] at e1
   rw [hmd] at e3
   repeat (first|go_skip|go_guarded|go_step|go_upon)
   obtain⟨W,hW⟩:∃ W,wr.alloc (.cells #[.string X,.int .i64 kd,.string Y,.int .i64 md] 45)=W:=⟨_,rfl⟩
   rw [hW] at RV bW ⊢
   have hatW:=Lib.hid (hat.below bW)
   have hPW:w1.heap.size<W.heap.size:=(Array.getElem?_eq_some_iff.1 hatW.out.row).1
   have hgW:wr.heap.size<W.heap.size:=(Array.getElem?_eq_some_iff.1 RV).1
   have hPr:w1.heap.size<wr.heap.size:=(Array.getElem?_eq_some_iff.1 hat.row).1
   obtain⟨s0,-,-,-,-,-,-,-,-,sf⟩:=row9 hatW.out.row
   obtain⟨t0,t1,t2,t3,tf⟩:=row4 RV
   have CF:Hid (Calls Tryz.prog 54 #[.pointer (some ⟨w1.heap.size,0,none⟩),.agg #[.string X,.int .i64 kd,.string Y,.int .i64 md]] W.drew fun r w'=>r=.returned (.agg #[.string X,.pointer (some ⟨W.heap.size+2,0,none⟩)])/\FreshW W.drew w1.heap.size x v (.slice none 0 0) (.slice none 0 0) (.slice none 0 0) (.slice none 0 0) (.slice none 0 0) true k 0 w'):=Lib.hid (by
    have:=fresh_walk W.drew w1.heap.size x v (.slice none 0 0) (.slice none 0 0) (.slice none 0 0) (.slice none 0 0) (.slice none 0 0) true k 0 hatW.out.row (by omega)
    unfold ndVal at this
    rw [hX,hY,hkd,hmd] at this
    exact this)
   have HStep:Hid (∀ W2,FreshW W.drew w1.heap.size x v (.slice none 0 0) (.slice none 0 0) (.slice none 0 0) (.slice none 0 0) (.slice none 0 0) true k 0 W2->_):=Lib.hid (fun W2 hf=>new_step (W0:=W.drew) (W2:=W2) (hatW.out.below ⟨rfl,rfl,rfl,Nat.le_refl _,fun _ _=>rfl⟩) hx (by omega) hX hf)
   clear hat hbl e0 e1 e2 e3 hc hX hY hx hkd hmd
   refine wp_region_noPanic ?_
   with_reducible refine QT.region_hold (S:=fun w'=>w'.cell? ⟨w1.heap.size,0,none⟩=some v/\w'.cell? ⟨wr.heap.size,0,none⟩=some (.string X)/\w'.cell? ⟨wr.heap.size,1,none⟩=some (.int .i64 kd)/\w'.cell? ⟨wr.heap.size,2,none⟩=some (.string Y)/\w'.cell? ⟨wr.heap.size,3,none⟩=some (.int .i64 md)) 7 10 (by kernel_rfl) (by kernel_rfl) ?_ ?_ ?_
   ·exact fun _ _ _ _ _ h=>h
   ·exact⟨s0,t0,t1,t2,t3⟩
   intro _
   simp only [List.take_succ_cons,List.take_zero,List.drop_succ_cons,List.drop_zero]
   iterate 7 (refine QT.wpTake_cons _ (by rfl) (by intro w' hSw;obtain⟨y0,y1,y2,y3,y4⟩:=hSw;go_simp;first|done|rfl) ?_;simp only [Act.put,List.setIfInBounds_toArray,List.set_cons_zero,List.set_cons_succ])
   refine QT.wpTake_nil ?_
   intro K' hK
   rw [if_pos (by rfl)]
   go_simp
   refine CF.out.mono ?_
   rintro r w2 ⟨rfl,hf⟩
   simp only []
   obtain⟨a',c',W3,hrun,hrow3,hu3,hat3⟩:=HStep.out w2 hf
   obtain⟨z0,-,-,-,-,-,-,-,-,-⟩:=row9 hf.row
   have hs2:W.heap.size<=w2.heap.size:=hf.out.size
   have RV2:w2.heap[wr.heap.size]?=_:=hf.out.row (w:=W.drew) RV (by omega)
   obtain⟨u0,u1,u2,u3,-⟩:=row4 RV2
   have RV3:W3.heap[wr.heap.size]?=_:=hu3.row (w:=W.drew) RV (fun h=>by
    rcases h.2 with h2|h2
    ·omega
    ·have h5:=(own_type hatW.out.own _ h2).ne ⟨_,_,RV⟩ (by decide)
     exact h5 rfl)
   obtain⟨x0,x1,x2,x3,-⟩:=row4 RV3
   obtain⟨q0,-,-,-,-,-,-,-,-,qf⟩:=row9 hrow3
   refine hK.out _ _ ⟨z0,u0,u1,u2,u3⟩ ?_
   clear hK K'
   try simp only [Act.put,List.setIfInBounds_toArray,List.set_cons_zero,List.set_cons_succ]
   intro K' hK
   rw [if_pos (by rfl)]
   go_simp
   have b2:Below w2.heap.size w2 (w2.alloc (.cells #[.string X,.pointer (some ⟨W.heap.size+2,0,none⟩)] 125)):=(Below.refl _ _).alloc (Nat.le_refl _) _
   refine hK.out _ _ ⟨(b2.cell (p:=⟨w1.heap.size,0,none⟩) (by show w1.heap.size<_;omega)).trans z0,(b2.cell (p:=⟨wr.heap.size,0,none⟩) (by show wr.heap.size<_;omega)).trans u0,(b2.cell (p:=⟨wr.heap.size,1,none⟩) (by show wr.heap.size<_;omega)).trans u1,(b2.cell (p:=⟨wr.heap.size,2,none⟩) (by show wr.heap.size<_;omega)).trans u2,(b2.cell (p:=⟨wr.heap.size,3,none⟩) (by show wr.heap.size<_;omega)).trans u3⟩ ?_
   clear hK K'
   try simp only [Act.put,List.setIfInBounds_toArray,List.set_cons_zero,List.set_cons_succ]
   intro K' hK
   refine step_app_eq rfl (.tmp 25) (.tmp 29) 119 119 rfl v (.slice (some ⟨w2.heap.size,0,none⟩) 1 1) rfl rfl hrun ?_
   refine hK.out _ _ ⟨q0,x0,x1,x2,x3⟩ ?_
   clear hK K'
   refine QT.wpDo_nil ?_
   try simp only [Act.put,List.setIfInBounds_toArray,List.set_cons_zero,List.set_cons_succ]
   have HB3:Hid (Below w1.heap.size w1 (W3.setCell ⟨w1.heap.size,0,none⟩ (.slice a' (k+1:Nat) c'))):=Lib.hid (by
    have u:=(((Out.of_below HBl.out).thenBelow bW).drew.then hu3 (fun j _ h=>h.1)).setCell (p:=⟨w1.heap.size,0,none⟩) (fun _=>Nat.le_refl _) (.slice a' (k+1:Nat) c')
    exact u.below (fun j hj _ h=>by omega) (Nat.le_refl _))
   have HAt3:=Lib.hid hat3
   clear hat3 hu3 hrow3 hrun RV RV2 RV3 bW hf
   repeat (first|go_skip|go_guarded|go_step|go_upon)
   refine NoPanic.normal ?_
   repeat (first|go_skip|go_guarded|go_step|go_upon)
   exact⟨⟨k+1,_,_,by go_num,by omega,HAt3.out,HB3.out⟩,by simp [Go.RowKit.intOf];omega⟩
  ·have hkz:¬ (k:Int)<n:=by omega
   obtain rfl:k=n:=by omega
   have HAt':Hid (NewAt wr w1.heap.size t t.length v adr):=Lib.hid (by rw [HN.out];exact hat)
   have CS:Hid (Calls Tryz.prog 55 #[.pointer (some ⟨w1.heap.size,0,none⟩)] wr fun r w'=>r=.returned (.tuple #[])/\∃ v1,w'.heap[w1.heap.size]?=some (.cells #[v,v1,.slice none 0 0,.bool true,.int .i64 (k:Nat),.int .i64 (0:Nat),.slice none 0 0,.slice none 0 0,.slice none 0 0] 122 (0,0))/\OwnE w' adr v1 (newD t).names/\(∀ g,v1.ownBlock=some g->wr.heap.size<=g)/\Out (fun k=>k=w1.heap.size) wr w'):=Lib.hid (by
    refine settle_row wr w1.heap.size adr (newD t).names v _ _ _ _ _ true k 0 hat.row ?_ ?_
    ·have h1:=hat.own
     rw [<- HN.out,List.take_length,freshes_all] at h1
     unfold OwnE
     rw [show (newD t).names.length=t.length by rw [new_names];simp]
     exact owns_base h1 0 (Nat.zero_le _)
    ·rw [show (newD t).names.length=t.length by rw [new_names];simp,HN.out]
     exact hlen)
   clear hat hbl
   repeat (first|(go_at_call 55;fail)|go_skip|go_guarded|go_step|go_upon)
   refine CS.out.mono ?_
   rintro r w3 ⟨rfl,v1,hr3,ho3,hg3,hu3⟩
   simp only []
   have HD:Hid (Disk (fun k=>w1.heap.size<k/\k<w3.heap.size) w3 w1.heap.size (newD t)):=Lib.hid (new_disk HT.out HAt'.out (by rw [HN.out];exact hr3) ho3 hg3 hu3)
   have HB3:Hid (Below w.heap.size w w3):=Lib.hid (((Out.refl (fun k=>w.heap.size<=k) w).thenBelow B1.out |>.then (Out.of_below HBl.out) (fun j hj h=>by have:=B1.out.size;omega) |>.then hu3 (fun j hj h=>by have:=B1.out.size;omega)).below (fun j hj _ h=>by omega) (Nat.le_refl _))
   clear hr3 ho3 hg3 hu3
   repeat (first|go_skip|go_guarded|go_step|go_upon)
   go_ret2
   exact⟨⟨_,_,rfl,B1.out.size,fun k hk=>by have:=B1.out.size;omega,HD.out⟩,HB3.out⟩
theorem dnew_no (ao:Option Addr) (cap:Nat) (t:List Nd) (w:World) (he:NF.Env w) (hw:TW.Wide w ao cap t) (ht:treeB t=false) :
  Calls Tryz.prog 10 #[.slice ao t.length cap] w fun r w'=>r=.returned (.tuple #[.pointer none,.int .i64 60])/\Below w.heap.size w w':=by
 have CC:=Lib.hid (TW.Wide.check he hw)
 rw [show (checkG t:Nat)=60 from check_no ht] at CC
 obtain⟨n,hn⟩:∃ n,t.length=n:=⟨_,rfl⟩
 rw [hn] at CC ⊢
 clear he hw ht hn
 go_enter Tryz.func10,Tryz.ntmps10
 repeat (first|(go_at_call 53;fail)|go_skip|go_guarded|go_step|go_upon)
 refine CC.out.mono ?_
 rintro r w1 ⟨rfl,hb1⟩
 simp only []
 have B1:=Lib.hid hb1
 clear hb1
 rw [show (((60:Nat):Int))=60 from rfl]
 repeat (first|go_skip|go_guarded|go_step|go_upon)
 go_ret2
 exact⟨rfl,B1.out⟩
theorem dnew_any (ao:Option Addr) (cap:Nat) (t:List Nd) (w:World) (he:NF.Env w) (hw:TW.Wide w ao cap t):Calls Tryz.prog 10 #[.slice ao t.length cap] w (NewPost t w):=by
 by_cases ht:treeB t=true
 ·refine (dnew_yes ao cap t w he hw ((tree_iff t).1 ht)).mono ?_
  rintro r w' ⟨h,hb⟩
  exact⟨fun _=>h,fun e=>(by rw [ht] at e;cases e),hb⟩
 ·have hf:treeB t=false:=by simpa using ht
  refine (dnew_no ao cap t w he hw hf).mono ?_
  rintro r w' ⟨h,hb⟩
  exact⟨fun e=>absurd e ht,fun _=>h,hb⟩
end DG
end Go.Proofs.YtmohjalanhnhbaaGreatDoor
end

section
namespace Go.Proofs.YtmohjalanhnhbaaGreatDoor
open Go.RowKit Go.Lib Go.BigFrame
namespace DG
open OM TP TM DP DM TG TR
def LastPost (l:List (List UInt8)) (w:World) (r:Ending) (w':World):Prop :=
 ∃ v,r=.returned v/\w'.ownsRow w.heap.size 9 1 v l.length (l.map txt)/\Below w.heap.size w w'
def lastsK (B:List Nd) (p:List UInt8) (k:Nat):List (List UInt8):=((B.take k).map fun e=>restL p e.path).filter fun r=>!decide (r=[])&&!decide (47∈r)
theorem lastsK_yes {B:List Nd} {p:List UInt8} {k:Nat} {x:Nd} (hx:B[k]?=some x) (h1:restL p x.path≠[]) (h2:(restL p x.path).contains 47=false):lastsK B p (k+1)=lastsK B p k++[restL p x.path]:=by
 unfold lastsK
 rw [List.take_add_one,hx,Option.toList_some,List.map_append,List.filter_append]
 have h3:47 ∉ restL p x.path:=by simpa using h2
 simp [h1,h3]
theorem lastsK_no {B:List Nd} {p:List UInt8} {k:Nat} {x:Nd} (hx:B[k]?=some x) (h:restL p x.path=[]∨(restL p x.path).contains 47=true):lastsK B p (k+1)=lastsK B p k:=by
 unfold lastsK
 rw [List.take_add_one,hx,Option.toList_some,List.map_append,List.filter_append]
 rcases h with h|h
 ·simp [h]
 ·have h3:47∈restL p x.path:=by simpa using h
  simp [h3]
theorem lastsK_len (B:List Nd) (p:List UInt8) (k:Nat):(lastsK B p k).length<=k:=by
 unfold lastsK
 refine Nat.le_trans (List.length_filter_le _ _) ?_
 rw [List.length_map,List.length_take]
 omega
theorem din_any (adr:Int->Nat) (ao:Option Addr) (cap:Nat) (ns:List Nd) (p:List UInt8) (w:World) (he:NF.Env w) (h:LayE w adr ao ns) {mm:Nat} (hr:Row mm ns) (hcap:ns.length<=cap) (hp:p.length<=maxLen) :
  Calls Tryz.prog 131 #[.slice ao ns.length cap,txt p] w (LastPost (lastsL ns p) w):=by
 obtain⟨i0,hi0,hz0,hz1,hz2⟩:=info_parts infoS
 have CW:=Lib.hid (dwithin_any adr ao cap ns p w he h hr hcap hp)
 have HL:=Lib.hid h
 obtain⟨B,hB⟩:∃ B,inE ns p=B:=⟨_,rfl⟩
 have hBl:B.length<=1000:=by rw [<- hB];exact Nat.le_trans (List.length_filter_le _ _) hr.len
 have HF:Hid (lastsL ns p=lastsK B p B.length):=Lib.hid (by unfold lastsL lastsK;rw [hB,List.take_length])
 obtain⟨n,hn⟩:∃ n,ns.length=n:=⟨_,rfl⟩
 obtain⟨S,hS,hSd⟩:=txt_of p
 have HS:=Lib.hid hSd
 rw [hn,hS] at CW ⊢
 obtain⟨q,hq⟩:∃ q,B.length=q:=⟨_,rfl⟩
 have HBq:=Lib.hid hq
 have HBB:=Lib.hid hB
 rw [hq] at hBl HF
 clear h hr hcap hp hn hS hSd he hB hq
 go_enter Tryz.func131,Tryz.ntmps131
 repeat (first|(go_at_call 108;fail)|go_skip|go_guarded|go_step|go_upon)
 refine CW.out.mono ?_
 rintro r w1 ⟨ao',c',rfl,hlay,hb1⟩
 rw [HBB.out] at hlay ⊢
 rw [HBq.out]
 simp only []
 have B1:=Lib.hid hb1
 have HLB:=Lib.hid (hlay _ (HL.out.below hb1))
 clear hb1 hlay
 repeat (first|go_skip|go_guarded|go_step|go_upon)
 go_loopw [5,13] (fun s5 s13 wr=>∃ k:Nat,s13=.int .i64 k/\k<=q/\wr.ownsRow w1.heap.size 9 1 s5 (lastsK B p k).length ((lastsK B p k).map txt)/\Below w.heap.size w wr/\Below w1.heap.size w1 wr) (fun _ s13 _=>q-(Go.RowKit.intOf s13).toNat)
 case atStart=>exact⟨0,rfl,Nat.zero_le _,World.ownsRow_nil _ _ _ _,B1.out,Below.refl _ _⟩
 case round =>
  obtain⟨k,rfl,hk,ho,hb,hb1⟩:=hrel
  have HO:=Lib.hid ho
  have HB:=Lib.hid hb
  have HB1:=Lib.hid hb1
  have hbs:=hb.size
  have hbs1:=hb1.size
  have HKl:=Lib.hid (lastsK_len B p k)
  have HLr:=Lib.hid (HLB.out.below hb1)
  clear ho hb hb1
  by_cases hlt:k<q
  ·have hkz:(k:Int)<q:=by omega
   obtain⟨g,o,rfl,hg,hc⟩:=HLr.out (by rw [HBq.out];omega)
   obtain⟨x,hx⟩:∃ x,B[k]?=some x:=⟨B[k]'(by rw [HBq.out];exact hlt),List.getElem?_eq_getElem _⟩
   obtain⟨X,hX,hXd⟩:=txt_of x.path
   obtain⟨a,ha⟩:=ptr_cases adr x.kind
   obtain⟨c0,c1⟩:=hc k x hx
   rw [hX] at c0
   rw [ha] at c1
   obtain⟨T1,hT1,hT1d⟩:=txt_of (Lib.trimPrefix x.path p)
   obtain⟨T,hT,hTd⟩:=txt_of (restL p x.path)
   have CT1:=Lib.hid (trim_txt X S T1 x.path p hXd HS.out hT1d)
   have CT2:=Lib.hid (trim_txt T1 ⟨#[47]⟩ T (Lib.trimPrefix x.path p) [47] hT1d rfl hTd)
   obtain⟨bc,hbc⟩:∃ b,(restL p x.path).contains 47=b:=⟨_,rfl⟩
   have CC:Hid (∀ W,Calls Tryz.prog 162 #[.string T,.string ⟨#[47]⟩] W fun e w'=>e=.returned (.bool bc)/\w'=W):=Lib.hid (fun W=>by
    have:=Tryz.strings_Contains_one T 47 W
    rw [idx_contains,hTd,hbc] at this
    exact this)
   have HTx:=Lib.hid hT
   have HBc:=Lib.hid hbc
   by_cases h0:restL p x.path=[]
   ·have hTe:T.toList.isEmpty=true:=by rw [Lib.toList_data,hTd,h0];rfl
    have HK:=Lib.hid (lastsK_no hx (.inl h0))
    clear hc hx hX hXd ha hlt hT1 hT1d hT hTd hbc h0
    repeat (first
     | (go_at_call_of 103 (Value.string X);refine (CT1.out _).mono ?_;rintro r w3 ⟨rfl,rfl⟩;simp only [])
     | (go_at_call_of 103 (Value.string T1);refine (CT2.out _).mono ?_;rintro r w4 ⟨rfl,rfl⟩;simp only [])
     | go_skip|go_guarded|go_step|go_upon)
    refine⟨⟨k+1,by go_num,by omega,?_,HB.out.alloc hbs _,HB1.out.alloc hbs1 _⟩,by simp [Go.RowKit.intOf];omega⟩
    rw [HK.out]
    exact HO.out.alloc _
   ·have hTe:T.toList.isEmpty=false:=by rw [Lib.toList_data,hTd];simpa using h0
    cases bc with
    | true =>
     have HK:=Lib.hid (lastsK_no hx (.inr HBc.out))
     clear hc hx hX hXd ha hlt hT1 hT1d hT hTd hbc h0
     repeat (first
      | (go_at_call_of 103 (Value.string X);refine (CT1.out _).mono ?_;rintro r w3 ⟨rfl,rfl⟩;simp only [])
      | (go_at_call_of 103 (Value.string T1);refine (CT2.out _).mono ?_;rintro r w4 ⟨rfl,rfl⟩;simp only [])
      | (go_at_call 162;refine (CC.out _).mono ?_;rintro r w5 ⟨rfl,rfl⟩;simp only [])
      | go_skip|go_guarded|go_step|go_upon)
     refine⟨⟨k+1,by go_num,by omega,?_,HB.out.alloc hbs _,HB1.out.alloc hbs1 _⟩,by simp [Go.RowKit.intOf];omega⟩
     rw [HK.out]
     exact HO.out.alloc _
    | false =>
     have HK:=Lib.hid (lastsK_yes hx h0 HBc.out)
     clear hc hx hX hXd ha hlt hT1 hT1d hT hTd hbc h0
     repeat (first
      | (go_at_call_of 103 (Value.string X);refine (CT1.out _).mono ?_;rintro r w3 ⟨rfl,rfl⟩;simp only [])
      | (go_at_call_of 103 (Value.string T1);refine (CT2.out _).mono ?_;rintro r w4 ⟨rfl,rfl⟩;simp only [])
      | (go_at_call 162;refine (CC.out _).mono ?_;rintro r w5 ⟨rfl,rfl⟩;simp only [])
      | (at_builtin;refine wpList_append_own _ rfl _ _ 48 rfl w1.heap.size 9 i0 (.string ByteArray.empty) 1 16 Tryz.underlying48 hi0 hz0 hz1 hz2 rfl (by decide) _ _ _ rfl ((HO.out.alloc _).alloc _) ⟨wr.heap.size+1,0,none⟩ 1 1 [.string T] rfl rfl (by have:=one_new (wr.alloc (.cells #[.string X,.pointer a] 125)) (.string T) 9;simpa using this) (fun x hx=>by simp at hx;subst hx;rfl) (by have:=HKl.out;unfold maxLen;omega) (by have:=HKl.out;omega) (by simp;omega) ?_;intro v' w5 hown' hgrow5 hnil5;have HO5:=Lib.hid hown';have HB5:=Lib.hid (((HB.out.alloc hbs _).alloc (by simp;omega) _).grown hgrow5 (by simp;omega) (fun j hj=>Nat.le_trans B1.out.size (HO.out.lt j hj).1));have HB6:=Lib.hid (((HB1.out.alloc hbs1 _).alloc (by simp;omega) _).grown hgrow5 (by simp;omega) (fun j hj=>(HO.out.lt j hj).1));clear hown' hgrow5 hnil5)
      | go_skip|go_guarded|go_step|go_upon)
     refine⟨⟨k+1,by go_num,by omega,?_,HB5.out,HB6.out⟩,by simp [Go.RowKit.intOf];omega⟩
     rw [HK.out,List.length_append,List.length_singleton,List.map_append,List.map_singleton,HTx.out]
     exact HO5.out
  ·have hkz:¬ (k:Int)<q:=by omega
   have HK:Hid (lastsL ns p=lastsK B p k):=Lib.hid (by rw [HF.out];congr 1;omega)
   clear hlt
   repeat (first|go_skip|go_guarded|go_step|go_upon)
   go_ret
   exact⟨_,rfl,by rw [HK.out];exact owns_base HO.out _ B1.out.size,HB.out⟩
end DG
end Go.Proofs.YtmohjalanhnhbaaGreatDoor
end

section
namespace Go.Proofs.YtmohjalanhnhbaaGreatDoor
open Go.RowKit Go.Lib Go.BigFrame
namespace DG
open OM TP TM DP DM TG TR FP
def namesR (D:Dk) (p:List UInt8):Dk×Int:=after (stepD D ⟨cNames,p,[]⟩) fun E=>refuse (firstE [missE E p,whenE (!decide (kindD E p=2)) 73]) E E
def lastsR (Z:Dk×Int) (p:List UInt8):List (List UInt8):=if Z.2=0 then lastsL Z.1.names p else []
def NmsPost (S:Nat->Prop) (P:Nat) (Z:Dk×Int) (p:List UInt8) (w:World) (r:Ending) (w':World):Prop :=
 ∃ v,r=.returned (.tuple #[v,.int .i64 Z.2])/\w'.ownsRow w.heap.size 9 1 v (lastsR Z p).length ((lastsR Z p).map txt)/\Out (fun k=>S k∨k=P) w w'/\∃ S',(∀ k,S' k->S k∨w.heap.size<=k)/\Disk S' w' P Z.1/\∀ g,v.ownBlock=some g->¬ S' g/\g≠P
theorem dnames_any (S:Nat->Prop) (w:World) (P m:Nat) (D:Dk) (p:List UInt8) (h:Disk S w P D) (he:NF.Env w) (hH:Hi S P) (hm:Num m D) (hm2:m<=100000) (hp:p.length<=maxLen) :
  Calls Tryz.prog 75 #[.pointer (some ⟨P,0,none⟩),txt p] w (NmsPost S P (namesR D p) p w):=by
 obtain⟨X,hX,hXd⟩:=txt_of p
 obtain⟨E,hE⟩:∃ E,(stepD D ⟨cNames,p,[]⟩).1=E:=⟨_,rfl⟩
 obtain⟨er,her⟩:∃ e,(stepD D ⟨cNames,p,[]⟩).2=e:=⟨_,rfl⟩
 have hnum:=step_num hm ⟨cNames,p,[]⟩
 have CS:Hid (Calls Tryz.prog 56 #[.pointer (some ⟨P,0,none⟩),.string ⟨#[78,97,109,101,115]⟩,.string X,.string ⟨#[]⟩] w fun r w'=>r=.returned (.int .i64 er)/\Does S P w.heap.size w E w'):=Lib.hid (by
  have:=step_any S w P m D ⟨cNames,p,[]⟩ h he hH hm hm2
  rw [hE,her] at this
  simp only at this
  rw [hX] at this
  exact this)
 rw [hE] at hnum
 have HW1:Hid (er≠0->namesR D p=(E,er)):=Lib.hid (fun h0=>by
  unfold namesR
  rw [after_no (by rw [her];exact h0),← hE,← her])
 have HW2:Hid (er=0->namesR D p=refuse (firstE [missE E p,whenE (!decide (kindD E p=2)) 73]) E E):=Lib.hid (fun h0=>by
  unfold namesR
  rw [after_yes (by rw [her];exact h0),← hE])
 have HE:=Lib.hid he
 have HH:=Lib.hid hH
 have HN:=Lib.hid hnum
 have HX:=Lib.hid hX
 have HXd:=Lib.hid hXd
 have HPp:=Lib.hid hp
 have hb2:E.later.length<=1099511627776/\E.inos.length<=4611686018427387904:=by
  have a1:=hnum.later
  have a2:=hnum.inos
  have hk1:m*2097152<=100000*2097152:=Nat.mul_le_mul_right _ hm2
  have hk2:m*2147483648<=100000*2147483648:=Nat.mul_le_mul_right _ hm2
  constructor<;>omega
 have HB2:=Lib.hid hb2
 obtain⟨Z,hZ⟩:∃ Z,namesR D p=Z:=⟨_,rfl⟩
 rw [hZ] at HW1 HW2
 rw [hZ,hX]
 clear h he hH hm hE her hnum hb2 hZ hX hXd hp
 go_enter Tryz.func75,Tryz.ntmps75
 repeat (first|(go_at_call 56;fail)|go_skip|go_guarded|go_step|go_upon)
 refine CS.out.mono ?_
 rintro r w1 ⟨rfl,hu1,S1,hs1,adr,x,hd1⟩
 simp only []
 have HU1:=Lib.hid hu1
 have HS1:=Lib.hid hs1
 have HD1:=Lib.hid hd1
 by_cases h0:er=0
 ·have HZ:=Lib.hid (HW2.out h0)
  obtain⟨ao,cap,hvn,_⟩:=layE_own hd1.rest.names
  obtain⟨n,hn⟩:∃ n,E.names.length=n:=⟨_,rfl⟩
  rw [hn] at hvn
  have hr:=hd1.row
  unfold diskC at hr
  rw [hvn] at hr
  obtain⟨c0,-,-,-,-,-,-,-,-,-⟩:=row9 hr
  have hpl:=(Array.getElem?_eq_some_iff.1 hr).1
  have E1:=Lib.hid (env_does HE.out hu1 HH.out)
  have HV:=Lib.hid hvn
  have HNl:=Lib.hid hn
  have g0:=cell_regrown c0
  have D6:=Lib.hid (fun b e=>when_g w1 b e)
  obtain⟨e1,he1⟩:∃ e,missE E p=e:=⟨_,rfl⟩
  have D1:=Lib.hid (reg_g (w:=w1) (f:=129) (args:=#[.pointer (some ⟨P,0,none⟩),.string X]) (v:=.int .i64 e1) (fun W hW=>by
   have:=missing_any S1 W P E adr [] p ⟨x,HD1.out.below hW⟩ (E1.out.below hW) HPp.out
   rw [he1,HX.out] at this
   exact this))
  obtain⟨k,hk⟩:∃ k,kindD E p=k:=⟨_,rfl⟩
  have D2:=Lib.hid (reg_g (w:=w1) (f:=57) (args:=#[.slice ao n cap,.string X]) (v:=.int .i64 k) (fun W hW=>by
   have:=kind_of (HD1.out.below hW) p HPp.out
   rw [HV.out,HX.out,hk] at this
   exact this))
  obtain⟨q0,hq0⟩:∃ b,(k != 2)=b:=⟨_,rfl⟩
  obtain⟨e0,he0⟩:∃ e,firstE [missE E p,whenE (!decide (kindD E p=2)) 73]=e:=⟨_,rfl⟩
  have HEq:Hid (firstE [e1,whenE q0 73]=e0):=Lib.hid (by
   rw [<- he0,he1,hk,← hq0]
   have z2:(!decide (k=2))=(k != 2):=by by_cases h:k=2<;>simp [h]
   rw [z2])
  have HE0:=Lib.hid he0
  have HR:Hid (Row E.inos.length E.names):=Lib.hid hd1.fit.names
  have hpl1:=Lib.hid hpl
  subst h0
  clear hu1 hs1 hd1 hvn hn hr hk he1 he0 c0
  repeat (first|go_skip|go_guarded|go_step|go_upon)
  with_reducible refine QT.region_tail 11 (by kernel_rfl) (by kernel_rfl) ?_
  simp only [List.take_succ_cons,List.take_zero,List.drop_succ_cons,List.drop_zero]
  repeat (go_big_quiet_step (first|(go_at_call 129;with_reducible exact D1.out _ _)|(go_at_call 57;with_reducible exact D2.out _ _)|(go_at_call 59;with_reducible exact D6.out _ _ _ _)))
  refine wpQuiet_nil ?_
  intro _ hw'
  obtain⟨⟨dq,osq⟩,hw''⟩:=hw'
  subst hw''
  have B5:=Lib.hid (below_regrown w1 dq osq)
  clear g0
  generalize Go.Sort.grow (redrawn w1 dq) osq=w5 at B5 ⊢
  repeat (first|(go_at_call 58;fail)|go_skip|go_guarded|go_step|go_upon)
  refine (first2 _ _ _ _ _ (heap_alloc_new w5 _)).mono ?_
  rintro r w7 ⟨hr6,hw7⟩
  have hr7:=hr6.trans (congrArg (fun z=>Ending.returned (.int .i64 z)) HEq.out)
  subst hr7
  clear hr6
  simp only []
  have B7:Hid (Below w1.heap.size w1 w7):=Lib.hid (hw7 ▸ B5.out.alloc B5.out.size _)
  clear hw7
  by_cases he0:e0=0
  ·subst he0
   have HZ2:Hid (Z=(E,0)):=Lib.hid (by rw [HZ.out,HE0.out];rfl)
   have D7:=Lib.hid (HD1.out.below B7.out)
   have hr7:=D7.out.row
   unfold diskC at hr7
   rw [HV.out] at hr7
   obtain⟨k0,-,-,-,-,k5,-,-,-,-⟩:=row9 hr7
   obtain⟨ao',cap',hvn',hlay',hcap',_⟩:=layE_own D7.out.rest.names
   have CI:=Lib.hid (din_any adr ao' cap' E.names p w7 (E1.out.below B7.out) hlay' HR.out hcap' HPp.out)
   rw [<- hvn',HV.out,HX.out] at CI
   clear hr7 hvn' hlay' hcap'
   repeat (first|(go_at_call 131;fail)|go_skip|go_guarded|go_step|go_upon)
   refine CI.out.mono ?_
   rintro r w8 ⟨v8,rfl,ho8,hb8⟩
   simp only []
   have HO8:=Lib.hid ho8
   have HB8:=Lib.hid hb8
   obtain⟨a8,c8,hv8,_⟩:=owns_view ho8
   subst hv8
   have hs7:=B7.out.size
   have hz1:=HU1.out.size
   clear ho8 hb8
   repeat (first|go_skip|go_guarded|go_step|go_upon)
   go_ret2
   rw [HZ2.out]
   refine⟨_,rfl,owns_base HO8.out _ (by omega),HU1.out.thenBelow (Below.trans B7.out (HB8.out.mono hs7)),S1,HS1.out,⟨adr,x,(HD1.out.below B7.out).below HB8.out⟩,fun g hg=>?_⟩
   have h5:=(HO8.out.lt g hg).1
   have h6:=hpl1.out
   exact⟨fun h7=>by have:=HD1.out.lt g h7;omega,by omega⟩
  ·have hez:(e0 != 0)=true:=by simpa using he0
   have hez2:(e0==0)=false:=by simpa using he0
   have HZ2:Hid (Z=(E,e0)):=Lib.hid (by rw [HZ.out,HE0.out];unfold refuse;rw [if_neg he0])
   have HL:Hid (lastsR (E,e0) p=[]):=Lib.hid (if_neg he0)
   clear he0
   repeat (first|go_skip|go_guarded|go_step|go_upon)
   go_ret2
   rw [HZ2.out]
   refine⟨_,rfl,?_,HU1.out.thenBelow B7.out,S1,HS1.out,⟨adr,x,HD1.out.below B7.out⟩,fun g hg=>(by cases hg)⟩
   rw [HL.out]
   exact World.ownsRow_nil _ _ _ _
 ·have HZ:=Lib.hid (HW1.out h0)
  have hez:(er != 0)=true:=by simpa using h0
  have hez2:(er==0)=false:=by simpa using h0
  clear hu1 hs1 hd1 h0
  have HL:Hid (lastsR (E,er) p=[]):=Lib.hid (if_neg (by simpa using hez2))
  repeat (first|go_skip|go_guarded|go_step|go_upon)
  go_ret2
  rw [HZ.out]
  refine⟨_,rfl,?_,HU1.out,S1,HS1.out,⟨adr,x,HD1.out⟩,fun g hg=>(by cases hg)⟩
  rw [HL.out]
  exact World.ownsRow_nil _ _ _ _
end DG
end Go.Proofs.YtmohjalanhnhbaaGreatDoor
end

section
namespace Go.Proofs.YtmohjalanhnhbaaGreatDoor
open Go.RowKit Go.Lib Go.BigFrame
namespace DG
open OM TP TM DP DM TG TR FP
end DG
end Go.Proofs.YtmohjalanhnhbaaGreatDoor
end

section
namespace Go.Proofs.YtmohjalanhnhbaaGreatDoor
open Go.RowKit Go.Lib Go.BigFrame
namespace DG
open OM TP TM DP DM TG TR FP
structure DS (w W:World) (S:Nat->Prop) (P m:Nat) (D:Dk):Prop where
 disk:Disk S W P D
 lo:∀ k,S k->w.heap.size<=k
 pl:w.heap.size<=P
 bel:Below w.heap.size w W
 num:Num m D
def Aft (w W:World) (S:Nat->Prop) (P m:Nat) (D:Dk) (W':World):Prop :=
 ∃ S',DS w W' S' P m D/\(∀ k,S' k->S k∨W.heap.size<=k)/\Out (fun k=>S k∨k=P) W W'
theorem DS.aft {w W W':World} {S:Nat->Prop} {P m m':Nat} {D D':Dk} (h:DS w W S P m D) (hd:Does S P W.heap.size W D' W') (hn:Num m' D'):Aft w W S P m' D' W':=by
 obtain⟨ho,S',hs,hk⟩:=hd
 have hb:=h.bel.size
 refine⟨S',⟨hk,fun k h1=>?_,h.pl,?_,hn⟩,hs,ho⟩
 ·rcases hs k h1 with h2|h2
  ·exact h.lo k h2
  ·omega
 ·have u:=(Out.of_below h.bel).then ho (fun j hj hT=>by
   rcases hT with hT|hT
   ·exact h.lo j hT
   ·rw [hT];exact h.pl)
  exact u.below (fun k hk _ hT=>by omega) (Nat.le_refl _)
theorem DS.below {w W W':World} {S:Nat->Prop} {P m:Nat} {D:Dk} (h:DS w W S P m D) (hb:Below W.heap.size W W'):DS w W' S P m D :=
 ⟨h.disk.below hb,h.lo,h.pl,Below.trans h.bel (hb.mono h.bel.size),h.num⟩
theorem DS.env {w W:World} {S:Nat->Prop} {P m:Nat} {D:Dk} (h:DS w W S P m D) (he:NF.Env w):NF.Env W:=he.below h.bel
theorem DS.hi {w W:World} {S:Nat->Prop} {P m:Nat} {D:Dk} (h:DS w W S P m D) (he:NF.Env w):Hi S P :=
 ⟨fun k hk=>Nat.le_trans (env_size he) (h.lo k hk),Nat.le_trans (env_size he) h.pl⟩
theorem DS.lt {w W:World} {S:Nat->Prop} {P m:Nat} {D:Dk} (h:DS w W S P m D):P<W.heap.size/\∀ k,S k->k<W.heap.size:=by
 obtain⟨adr,x,hx⟩:=h.disk
 exact⟨(Array.getElem?_eq_some_iff.1 hx.row).1,hx.lt⟩
theorem DS.np {w W:World} {S:Nat->Prop} {P m:Nat} {D:Dk} (h:DS w W S P m D):¬ S P:=by
 obtain⟨adr,x,hx⟩:=h.disk
 exact hx.np
theorem DS.out {w W W':World} {S T:Nat->Prop} {P m:Nat} {D:Dk} (h:DS w W S P m D) (ho:Out T W W') (hT:∀ k,T k->¬ S k/\k≠P/\w.heap.size<=k):DS w W' S P m D :=
 ⟨h.disk.beside ho (fun k hk=>⟨(hT k hk).1,(hT k hk).2.1⟩),h.lo,h.pl,((Out.of_below h.bel).then ho (fun j _ hj=>(hT j hj).2.2)).below (fun k hk _ h2=>by omega) (Nat.le_refl _),h.num⟩
theorem num_new {t:List Nd} (h:t.length<=1000):Num 0 (newD t):=by
 refine⟨Nat.le_refl _,Nat.le_refl _,Nat.le_refl _,?_,Nat.zero_le _,(fun e he=>by cases he),(fun e he=>by cases he)⟩
 show (t.map (freshI emptyD)).length<=_
 rw [List.length_map]
 omega
theorem num_boot {m:Nat} {D:Dk} (h:Num m D) (fs:List Fate):Num m (bootD D fs []) :=
 ⟨h.clock,Nat.zero_le _,h.later,h.inos,Nat.zero_le _,(fun e he=>by cases he),(fun e he=>by cases he)⟩
theorem num_after {m:Nat} {D:Dk} {c:Did} {f:Dk->Dk×Int} (h:Num m D) (hf:∀ E,NumS m E->Num (m+1) (f E).1):Num (m+1) (after (stepD D c) f).1:=by
 have hs:=step_num h c
 by_cases h0:(stepD D c).2=0
 ·rw [after_yes h0];exact hf _ hs
 ·rw [after_no h0];exact hs.num
theorem num_refuse {m:Nat} {e:Int} {E E':Dk} (h:NumS m E) (h':Num (m+1) E'):Num (m+1) (refuse e E E').1:=by
 unfold refuse
 split
 ·exact h'
 ·exact h.num
theorem num_write {m:Nat} {D:Dk} (h:Num m D) (p dt:List UInt8) (md:Int):Num (m+1) (writeD D p dt md).1 :=
 num_after h fun E hE=>num_refuse hE (by
  unfold wroteD
  refine Num.setI ?_ _ _
  split
  ·exact hE.lay _ _
  ·exact hE.num)
theorem num_remove {m:Nat} {D:Dk} (h:Num m D) (p:List UInt8):Num (m+1) (removeD D p).1:=num_after h fun E hE=>num_refuse hE (hE.change _)
theorem num_replace {m:Nat} {D:Dk} (h:Num m D) (p q:List UInt8):Num (m+1) (replaceD D p q).1:=num_after h fun E hE=>num_refuse hE (hE.change _)
theorem num_sync {m:Nat} {D:Dk} (h:Num m D) (p:List UInt8):Num (m+1) (syncD D p).1:=num_after h fun E hE=>num_refuse hE (hE.num.setI _ _)
theorem num_flush {m:Nat} {D:Dk} (h:Num m D):Num (m+1) (flushD D).1:=num_after h fun E hE=>hE.num.settle
theorem num_get {m:Nat} {D:Dk} (h:Num m D) (p:List UInt8):Num (m+1) (getD D p).1:=by
 have h1:(getD D p).1=(after (stepD D ⟨cGet,p,[]⟩) fun E=>refuse (missE E p) E E).1:=by
  unfold getD
  simp only
  split<;>rfl
 rw [h1]
 exact num_after h fun E hE=>num_refuse hE hE.num
theorem num_names {m:Nat} {D:Dk} (h:Num m D) (p:List UInt8):Num (m+1) (namesR D p).1:=num_after h fun E hE=>num_refuse hE hE.num
theorem DS.write {w W:World} {S:Nat->Prop} {P m:Nat} {D:Dk} (h:DS w W S P m D) (he:NF.Env w) (hm:m<=100000) (p dt:List UInt8) (md:Int) (hp:p.length<=maxLen) :
  Calls Tryz.prog 12 #[.pointer (some ⟨P,0,none⟩),txt p,txt dt,.int .i64 md] W fun r W'=>r=.returned (.int .i64 (writeD D p dt md).2)/\Aft w W S P (m+1) (writeD D p dt md).1 W':=by
 refine (dwrite_any S W P m D p dt md h.disk (h.env he) (h.hi he) h.num hm hp).mono ?_
 rintro r W' ⟨hr,hd⟩
 exact⟨hr,h.aft hd (num_write h.num p dt md)⟩
theorem DS.remove {w W:World} {S:Nat->Prop} {P m:Nat} {D:Dk} (h:DS w W S P m D) (he:NF.Env w) (hm:m<=100000) (p:List UInt8) (hp:p.length<=maxLen) :
  Calls Tryz.prog 47 #[.pointer (some ⟨P,0,none⟩),txt p] W fun r W'=>r=.returned (.int .i64 (removeD D p).2)/\Aft w W S P (m+1) (removeD D p).1 W':=by
 refine (dremove_any S W P m D p h.disk (h.env he) (h.hi he) h.num hm hp).mono ?_
 rintro r W' ⟨hr,hd⟩
 exact⟨hr,h.aft hd (num_remove h.num p)⟩
theorem DS.replace {w W:World} {S:Nat->Prop} {P m:Nat} {D:Dk} (h:DS w W S P m D) (he:NF.Env w) (hm:m<=100000) (p q:List UInt8) (hp:p.length<=maxLen) (hq:q.length<=maxLen) :
  Calls Tryz.prog 49 #[.pointer (some ⟨P,0,none⟩),txt p,txt q] W fun r W'=>r=.returned (.int .i64 (replaceD D p q).2)/\Aft w W S P (m+1) (replaceD D p q).1 W':=by
 refine (dreplace_any S W P m D p q h.disk (h.env he) (h.hi he) h.num hm hp hq).mono ?_
 rintro r W' ⟨hr,hd⟩
 exact⟨hr,h.aft hd (num_replace h.num p q)⟩
theorem DS.sync {w W:World} {S:Nat->Prop} {P m:Nat} {D:Dk} (h:DS w W S P m D) (he:NF.Env w) (hm:m<=100000) (p:List UInt8) (hp:p.length<=maxLen) :
  Calls Tryz.prog 50 #[.pointer (some ⟨P,0,none⟩),txt p] W fun r W'=>r=.returned (.int .i64 (syncD D p).2)/\Aft w W S P (m+1) (syncD D p).1 W':=by
 refine (dsync_any S W P m D p h.disk (h.env he) (h.hi he) h.num hm hp).mono ?_
 rintro r W' ⟨hr,hd⟩
 exact⟨hr,h.aft hd (num_sync h.num p)⟩
theorem DS.flush {w W:World} {S:Nat->Prop} {P m:Nat} {D:Dk} (h:DS w W S P m D) (he:NF.Env w) (hm:m<=100000) :
  Calls Tryz.prog 51 #[.pointer (some ⟨P,0,none⟩)] W fun r W'=>r=.returned (.int .i64 (flushD D).2)/\Aft w W S P (m+1) (flushD D).1 W':=by
 refine (dflush_any S W P m D h.disk (h.env he) (h.hi he) h.num hm).mono ?_
 rintro r W' ⟨hr,hd⟩
 exact⟨hr,h.aft hd (num_flush h.num)⟩
theorem DS.get {w W:World} {S:Nat->Prop} {P m:Nat} {D:Dk} (h:DS w W S P m D) (he:NF.Env w) (hm:m<=100000) (p:List UInt8) (hp:p.length<=maxLen) :
  Calls Tryz.prog 74 #[.pointer (some ⟨P,0,none⟩),txt p] W fun r W'=>r=.returned (.tuple #[ndVal (getD D p).2.1,stampVal (getD D p).2.2.1,.int .i64 (getD D p).2.2.2])/\Aft w W S P (m+1) (getD D p).1 W':=by
 refine (dget_any S W P m D p h.disk (h.env he) (h.hi he) h.num hm hp).mono ?_
 rintro r W' ⟨hr,hd⟩
 exact⟨hr,h.aft hd (num_get h.num p)⟩
def AftN (w W:World) (S:Nat->Prop) (P m:Nat) (D:Dk) (v:Value) (W':World):Prop :=
 ∃ S',DS w W' S' P m D/\(∀ k,S' k->S k∨W.heap.size<=k)/\Out (fun k=>S k∨k=P) W W'/\∀ g,v.ownBlock=some g->¬ S' g/\g≠P
theorem DS.names {w W:World} {S:Nat->Prop} {P m:Nat} {D:Dk} (h:DS w W S P m D) (he:NF.Env w) (hm:m<=100000) (p:List UInt8) (hp:p.length<=maxLen) :
  Calls Tryz.prog 75 #[.pointer (some ⟨P,0,none⟩),txt p] W fun r W'=>∃ v,r=.returned (.tuple #[v,.int .i64 (namesR D p).2])/\W'.ownsRow W.heap.size 9 1 v (lastsR (namesR D p) p).length ((lastsR (namesR D p) p).map txt)/\AftN w W S P (m+1) (namesR D p).1 v W':=by
 refine (dnames_any S W P m D p h.disk (h.env he) (h.hi he) h.num hm hp).mono ?_
 rintro r W' ⟨v,hr,ho,hu,S',hs,hd,hg⟩
 refine⟨v,hr,ho,?_⟩
 have hb:=h.bel.size
 refine⟨S',⟨hd,fun k h1=>?_,h.pl,?_,num_names h.num p⟩,hs,hu,hg⟩
 ·rcases hs k h1 with h2|h2
  ·exact h.lo k h2
  ·omega
 ·have u:=(Out.of_below h.bel).then hu (fun j hj hT=>by
   rcases hT with hT|hT
   ·exact h.lo j hT
   ·rw [hT];exact h.pl)
  exact u.below (fun k hk _ hT=>by omega) (Nat.le_refl _)
theorem DS.on {w W:World} {S:Nat->Prop} {P m:Nat} {D:Dk} (h:DS w W S P m D) :
  Calls Tryz.prog 13 #[.pointer (some ⟨P,0,none⟩)] W fun r w'=>r=.returned (.bool (!D.off))/\W=w':=by
 obtain⟨adr,x,hx⟩:=h.disk
 exact on_any W P (!D.off) _ _ _ _ _ _ _ _ hx.row
theorem DS.steps {w W:World} {S:Nat->Prop} {P m:Nat} {D:Dk} (h:DS w W S P m D) :
  Calls Tryz.prog 14 #[.pointer (some ⟨P,0,none⟩)] W fun r w'=>r=.returned (.int .i64 (D.trace.length:Nat))/\W=w':=by
 obtain⟨adr,x,hx⟩:=h.disk
 obtain⟨ao,c,hv,_⟩:=owns_view hx.rest.trace
 have hr:=hx.row
 unfold diskC at hr
 rw [hv] at hr
 exact steps_any W P ao D.trace.length c _ _ _ _ _ _ _ _ hr
theorem DS.tree {w W:World} {S:Nat->Prop} {P m:Nat} {D:Dk} (h:DS w W S P m D) :
  Calls Tryz.prog 15 #[.pointer (some ⟨P,0,none⟩)] W (TR.AtPost (treeD D) W):=tree_of S W P D h.disk
theorem DS.boot {w W:World} {S:Nat->Prop} {P m:Nat} {D:Dk} (h:DS w W S P m D) (fs:List Fate) (af:Option Addr) (cf:Nat) (hf:∀ ad,af=some ad->∀ (j:Nat) (u:Value),(fatesC fs)[j]?=some u->W.cell? (ad.add j)=some u)
  (hff:∀ ad,af=some ad->ad.block≠P/\ad.block<W.heap.size) (hno:af=none->fs.length=0/\cf=0) (hl:fs.length<=1048576) :
  Calls Tryz.prog 17 #[.pointer (some ⟨P,0,none⟩),.slice af fs.length cf,.slice none 0 0] W fun r W'=>r=.returned (.tuple #[])/\Aft w W S P m (bootD D fs []) W':=by
 refine (dboot_nil S W P D fs af cf h.disk hf hff hno hl).mono ?_
 rintro r W' ⟨hr,hd⟩
 exact⟨hr,h.aft hd (num_boot h.num fs)⟩
theorem new_ds {t:List Nd} {w:World} {ao:Option Addr} {cap:Nat} (he:NF.Env w) (hw:TW.Wide w ao cap t) (ht:treeB t=true) :
  Calls Tryz.prog 10 #[.slice ao t.length cap] w fun r w'=>∃ S P,r=.returned (.tuple #[.pointer (some ⟨P,0,none⟩),.int .i64 0])/\DS w w' S P 0 (newD t):=by
 refine (dnew_any ao cap t w he hw).mono ?_
 rintro r w' ⟨h1,_,hb⟩
 obtain⟨S,P,hr,hp,hs,hd⟩:=h1 ht
 exact⟨S,P,hr,hd,hs,hp,hb,num_new ((tree_iff t).1 ht).len⟩
end DG
end Go.Proofs.YtmohjalanhnhbaaGreatDoor
end
