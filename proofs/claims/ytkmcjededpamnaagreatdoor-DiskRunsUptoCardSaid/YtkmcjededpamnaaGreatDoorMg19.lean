import Derived.Test.YtkmcjededpamnaaGreatDoorMg13
import Derived.Test.YtkmcjededpamnaaGreatDoorMg12
import Derived.Test.YtkmcjededpamnaaGreatDoorMg11
import Derived.Test.YtkmcjededpamnaaGreatDoorMg21
import Derived.Test.YtkmcjededpamnaaGreatDoorMg3
import Derived.Test.YtkmcjededpamnaaGreatDoorMg14
import Derived.Test.YtkmcjededpamnaaGreatDoorMg15
import Derived.Test.YtkmcjededpamnaaGreatDoorMg2
set_option linter.all false
set_option maxRecDepth 100000
set_option maxHeartbeats 0
namespace Go.Proofs.YtkmcjededpamnaaGreatDoor
open List(set_cons_zero set_cons_succ setIfInBounds_toArray length_map drop_succ_cons drop_zero getElem?_cons_succ filterMap_cons filterMap_nil map_nil)
section
open Go.RowKit Go.Lib Go.BigFrame
namespace RK
open OM TP TM DP DM FP DG TG TR
def PrK(w W:World)(P Q m:Nat)(D:Dk)(n:Nat)(E:Dk)(K:Nat->Prop):Prop :=
 ∃ S T,DS w W S P m D/\RS w W T Q n E/\P≠Q/\¬ S Q/\¬ T P/\(∀ k,S k->¬ T k)/\∀ k,K k->k<W.heap.size/\¬ S k/\k≠P/\¬ T k/\k≠Q
def RAftN(w W:World)(T:Nat->Prop)(Q m:Nat)(D:Dk)(v:Value)(W':World):Prop :=
 ∃ T',RS w W' T' Q m D/\(∀ k,T' k->T k\/W.heap.size<=k)/\Out (fun k=>T k\/k=Q) W W'/\∀ g,v.ownBlock=some g->¬ T' g/\g≠Q
theorem PrK.below{w W W':World}{P Q m n:Nat}{D E:Dk}{K:Nat->Prop}(h:PrK w W P Q m D n E K)(hb:Below W.heap.size W W'):PrK w W' P Q m D n E K:=by
 obtain⟨S,T,h1,h2,h3,h4,h5,h6,h7⟩:=h;exact⟨S,T,h1.below hb,h2.below hb,h3,h4,h5,h6,fun k hk=>⟨Nat.lt_of_lt_of_le (h7 k hk).1 hb.size,(h7 k hk).2⟩⟩
theorem PrK.grow{w W W':World}{P Q m n:Nat}{D E:Dk}{K:Nat->Prop}(h:PrK w W P Q m D n E K)(hb:Below W.heap.size W W'):PrK w W' P Q m D n E (fun k=>K k\/(W.heap.size<=k/\k<W'.heap.size)):=by
 obtain⟨S,T,h1,h2,h3,h4,h5,h6,h7⟩:=h;obtain⟨l1,l2⟩:=h1.lt;obtain⟨l3,l4⟩:=h2.lts;refine⟨S,T,h1.below hb,h2.below hb,h3,h4,h5,h6,fun k hk=>?_⟩;rcases hk with hk|⟨cA,a7⟩
 ·exact⟨Nat.lt_of_lt_of_le (h7 k hk).1 hb.size,(h7 k hk).2⟩
 ·exact⟨a7,fun hh=>absurd (l2 k hh) (by omega),by omega,fun hh=>absurd (l4 k hh) (by omega),by omega⟩
theorem PrK.weak{w W:World}{P Q m n:Nat}{D E:Dk}{K L:Nat->Prop}(h:PrK w W P Q m D n E K)(hl:∀ k,L k->K k):PrK w W P Q m D n E L:=by
 obtain⟨S,T,h1,h2,h3,h4,h5,h6,h7⟩:=h;exact⟨S,T,h1,h2,h3,h4,h5,h6,fun k hk=>h7 k (hl k hk)⟩
theorem PrK.bel{w W:World}{P Q m n:Nat}{D E:Dk}{K:Nat->Prop}(h:PrK w W P Q m D n E K):Below w.heap.size w W:=by
 obtain⟨S,T,h1,_⟩:=h;exact h1.bel
theorem PrK.out{w W W':World}{P Q m n:Nat}{D E:Dk}{K U:Nat->Prop}(h:PrK w W P Q m D n E K)(ho:Out U W W')(hU:∀ k,U k->K k/\w.heap.size<=k):PrK w W' P Q m D n E K:=by
 obtain⟨S,T,h1,h2,h3,h4,h5,h6,h7⟩:=h;refine⟨S,T,h1.out ho (fun k hk=>?_),h2.out ho (fun k hk=>?_),h3,h4,h5,h6,fun k hk=>⟨Nat.lt_of_lt_of_le (h7 k hk).1 ho.size,(h7 k hk).2⟩⟩
 ·obtain⟨a,b⟩:=hU k hk;obtain⟨_,c,d,_,_⟩:=h7 k a;exact⟨c,d,b⟩
 ·obtain⟨a,b⟩:=hU k hk;obtain⟨_,_,_,c,d⟩:=h7 k a;exact⟨c,d,b⟩
theorem PrK.leftN{w W:World}{P Q m n:Nat}{D E:Dk}{K:Nat->Prop}(h:PrK w W P Q m D n E K){f:FuncId}{args:Array Value}{R:Value->Ending->World->Prop}{m':Nat}{D':Dk}
  (hc:∀ S,DS w W S P m D->Calls Tryz.prog f args W fun r W'=>∃ v,R v r W'/\(∀ g,v.ownBlock=some g->W.heap.size<=g/\g<W'.heap.size)/\AftN w W S P m' D' v W') :
  Calls Tryz.prog f args W fun r W'=>∃ v,R v r W'/\PrK w W' P Q m' D' n E (fun k=>K k\/v.ownBlock=some k)/\(∀ g,v.ownBlock=some g->W.heap.size<=g)/\∀ k,K k->W'.heap[k]?=W.heap[k]?:=by
 obtain⟨S,T,h1,h2,h3,h4,h5,h6,h7⟩:=h;refine(hc S h1).mono ?_;rintro r W' ⟨v,hR,hg,S',d',s',o',hv⟩;obtain⟨l3,l4⟩:=h2.lts;refine⟨v,hR,⟨S',T,d',h2.out o' (fun k hk=>?_),h3,fun hh=>?_,h5,fun k hk hT=>?_,fun k hk=>?_⟩,fun g hh=>(hg g hh).1,fun k hk=>o'.block k (h7 k hk).1 (fun hh=>?_)⟩
 ·rcases hk with hk|hk
  ·exact⟨h6 k hk,fun e=>h4 (e ▸ hk),h1.lo k hk⟩
  ·exact⟨hk ▸ h5,hk ▸ h3,hk ▸ h1.pl⟩
 ·rcases s' Q hh with h|h
  ·exact h4 h
  ·omega
 ·rcases s' k hk with h|h
  ·exact h6 k h hT
  ·have:=l4 k hT;omega
 ·rcases hk with hk|hk
  ·obtain⟨a,b,c,d,e⟩:=h7 k hk;refine⟨Nat.lt_of_lt_of_le a o'.size,fun hh=>?_,c,d,e⟩;rcases s' k hh with h|h
   ·exact b h
   ·omega
  ·obtain⟨a,b⟩:=hg k hk;obtain⟨c,d⟩:=hv k hk;exact⟨b,c,d,fun hh=>absurd (l4 k hh) (by omega),by omega⟩
 ·obtain⟨a,b,c,d,e⟩:=h7 k hk;rcases hh with hh|hh
  ·exact b hh
  ·exact c hh
theorem PrK.rightN{w W:World}{P Q m n:Nat}{D E:Dk}{K:Nat->Prop}(h:PrK w W P Q m D n E K){f:FuncId}{args:Array Value}{R:Value->Ending->World->Prop}{n':Nat}{E':Dk}
  (hc:∀ T,RS w W T Q n E->Calls Tryz.prog f args W fun r W'=>∃ v,R v r W'/\(∀ g,v.ownBlock=some g->W.heap.size<=g/\g<W'.heap.size)/\RAftN w W T Q n' E' v W') :
  Calls Tryz.prog f args W fun r W'=>∃ v,R v r W'/\PrK w W' P Q m D n' E' (fun k=>K k\/v.ownBlock=some k)/\(∀ g,v.ownBlock=some g->W.heap.size<=g)/\∀ k,K k->W'.heap[k]?=W.heap[k]?:=by
 obtain⟨S,T,h1,h2,h3,h4,h5,h6,h7⟩:=h;refine(hc T h2).mono ?_;rintro r W' ⟨v,hR,hg,T',d',s',o',hv⟩;obtain⟨l1,l2⟩:=h1.lt;obtain⟨x2,b0⟩:=h2;refine⟨v,hR,⟨S,T',h1.out o' (fun k hk=>?_),d',h3,h4,fun hh=>?_,fun k hk hT=>?_,fun k hk=>?_⟩,fun g hh=>(hg g hh).1,fun k hk=>o'.block k (h7 k hk).1 (fun hh=>?_)⟩
 ·rcases hk with hk|hk
  ·exact⟨fun e=>h6 k e hk,fun e=>h5 (e ▸ hk),b0.lo k hk⟩
  ·exact⟨hk ▸ h4,hk ▸ (Ne.symm h3),hk ▸ b0.ql⟩
 ·rcases s' P hh with h|h
  ·exact h5 h
  ·omega
 ·rcases s' k hT with h|h
  ·exact h6 k hk h
  ·have:=l2 k hk;omega
 ·rcases hk with hk|hk
  ·obtain⟨a,b,c,d,e⟩:=h7 k hk;refine⟨Nat.lt_of_lt_of_le a o'.size,b,c,fun hh=>?_,e⟩;rcases s' k hh with h|h
   ·exact d h
   ·omega
  ·obtain⟨a,b⟩:=hg k hk;obtain⟨c,d⟩:=hv k hk;exact⟨b,fun hh=>absurd (l2 k hh) (by omega),by omega,c,d⟩
 ·obtain⟨a,b,c,d,e⟩:=h7 k hk;rcases hh with hh|hh
  ·exact d hh
  ·exact e hh
theorem PrK.left{w W:World}{P Q m n:Nat}{D E:Dk}{K:Nat->Prop}(h:PrK w W P Q m D n E K){f:FuncId}{args:Array Value}{R:Ending}{m':Nat}{D':Dk}
  (hc:∀ S,DS w W S P m D->Calls Tryz.prog f args W fun r W'=>r=R/\Aft w W S P m' D' W') :
  Calls Tryz.prog f args W fun r W'=>r=R/\PrK w W' P Q m' D' n E K/\∀ k,K k->W'.heap[k]?=W.heap[k]?:=by
 refine(h.leftN (R:=fun v r _=>r=R/\v=.slice none 0 0) (m':=m') (D':=D') (fun S hd=>(hc S hd).mono ?_)).mono ?_
 ·rintro r W' ⟨hr,S',d',s',o'⟩;exact⟨.slice none 0 0,⟨hr,rfl⟩,(fun g hg=>by cases hg),S',d',s',o',fun g hg=>by cases hg⟩
 ·rintro r W' ⟨v,⟨hr,_⟩,hp,_,hk⟩;exact⟨hr,hp.weak (fun k hk=>.inl hk),hk⟩
theorem PrK.right{w W:World}{P Q m n:Nat}{D E:Dk}{K:Nat->Prop}(h:PrK w W P Q m D n E K){f:FuncId}{args:Array Value}{R:Ending}{n':Nat}{E':Dk}
  (hc:∀ T,RS w W T Q n E->Calls Tryz.prog f args W fun r W'=>r=R/\RAft w W T Q n' E' W') :
  Calls Tryz.prog f args W fun r W'=>r=R/\PrK w W' P Q m D n' E' K/\∀ k,K k->W'.heap[k]?=W.heap[k]?:=by
 refine(h.rightN (R:=fun v r _=>r=R/\v=.slice none 0 0) (n':=n') (E':=E') (fun T hd=>(hc T hd).mono ?_)).mono ?_
 ·rintro r W' ⟨hr,S',d',s',o'⟩;exact⟨.slice none 0 0,⟨hr,rfl⟩,(fun g hg=>by cases hg),S',d',s',o',fun g hg=>by cases hg⟩
 ·rintro r W' ⟨v,⟨hr,_⟩,hp,_,hk⟩;exact⟨hr,hp.weak (fun k hk=>.inl hk),hk⟩
theorem RS.rebase7{w w1 W:World}{T:Nat->Prop}{Q m:Nat}{D:Dk}(h:RS w1 W T Q m D)(hb:Below w.heap.size w w1)(hf:D.fates=[])(he:D.edits=[]):RS w W T Q m D:=by
 obtain⟨x,h⟩:=h
 exact⟨{ x with evs:=[] },{
  row:=h.row
  names:=h.names
  safe:=h.safe
  later:=h.later
  llen:=h.llen
  lin:=h.lin
  each:=h.each
  inos:=h.inos
  iin:=h.iin
  trace:=h.trace
  tin:=h.tin
  fates:=⟨(fun ad _ j u hj=>by rw[hf]at hj;cases hj),(fun ad _ h0=>by rw[hf]at h0;cases h0),(fun _=>by rw[hf];rfl),(by rw[hf];exact Nat.zero_le _)⟩
  edits:=by
   have aK:=h.edits.cap;rw[he]at aK ⊢;exact⟨fun h0=>absurd h0 (by simp),rfl,(fun j e v h=>by simp at h),h.edits.no,aK⟩
  epath:=h.epath
  lo:=fun k hk=>Nat.le_trans hb.size (h.lo k hk)
  ql:=Nat.le_trans hb.size h.ql
  lt:=h.lt
  np:=h.np
  bel:=Below.trans hb (h.bel.mono hb.size)
  num:=h.num }⟩
theorem PrK.start{w1 w2 w3:World}{S T:Nat->Prop}{P Q:Nat}{t:List Nd}(hd:DS w1 w2 S P 0 (newD t))(hr:RS w2 w3 T Q 0 (newD t)):PrK w1 w3 P Q 0 (newD t) 0 (newD t) (fun k=>k<w1.heap.size):=by
 obtain⟨l1,l2⟩:=hd.lt;have cq:=hr;obtain⟨x,hx⟩:=hr;have h0:=hd.bel.size;have hp:=hd.pl;have hq:=hx.ql;refine⟨S,T,hd.below hx.bel,cq.rebase7 hd.bel rfl rfl,by omega,fun h=>?_,fun h=>?_,fun k hk hT=>?_,fun k hk=>⟨?_,fun h=>?_,by omega,fun h=>?_,by omega⟩⟩
 ·have:=l2 _ h;omega
 ·have:=hx.lo _ h;omega
 ·have:=l2 _ hk;have:=hx.lo _ hT;omega
 ·have:=hx.bel.size;omega
 ·have:=hd.lo _ h;omega
 ·have:=hx.lo _ h;omega
theorem PrK.qcells{w W:World}{P Q m n:Nat}{D E:Dk}{K:Nat->Prop}(h:PrK w W P Q m D n E K):W.cell? ⟨Q,4,none⟩=some (.bool E.off)/\W.cell? ⟨Q,5,none⟩=some (.int .i64 (E.trace.length:Nat)):=by
 obtain⟨S,T,h1,⟨x,hx⟩,_⟩:=h;exact⟨by rw[cell_of_row W Q 4 _ _ _ hx.row];rfl,by rw[cell_of_row W Q 5 _ _ _ hx.row];rfl⟩
theorem PrK.qlt{w W:World}{P Q m n:Nat}{D E:Dk}{K:Nat->Prop}(h:PrK w W P Q m D n E K):Q<W.heap.size:=by
 obtain⟨S,T,h1,h2,_⟩:=h;exact h2.lts.1
theorem PrK.don{w W:World}{P Q m n:Nat}{D E:Dk}{K:Nat->Prop}(h:PrK w W P Q m D n E K) :
  Calls Tryz.prog 13 #[.pointer (some ⟨P,0,none⟩)] W fun r w'=>r=.returned (.bool (!D.off))/\W=w':=by
 obtain⟨S,T,h1,_⟩:=h;exact h1.on
theorem PrK.dsteps{w W:World}{P Q m n:Nat}{D E:Dk}{K:Nat->Prop}(h:PrK w W P Q m D n E K) :
  Calls Tryz.prog 14 #[.pointer (some ⟨P,0,none⟩)] W fun r w'=>r=.returned (.int .i64 (D.trace.length:Nat))/\W=w':=by
 obtain⟨S,T,h1,_⟩:=h;exact h1.steps
theorem PrK.dtree{w W:World}{P Q m n:Nat}{D E:Dk}{K:Nat->Prop}(h:PrK w W P Q m D n E K) :
  Calls Tryz.prog 15 #[.pointer (some ⟨P,0,none⟩)] W (TR.AtPost (treeD D) W):=by
 obtain⟨S,T,h1,_⟩:=h;exact h1.tree
theorem PrK.ktree{w W:World}{P Q m n:Nat}{D E:Dk}{K:Nat->Prop}(h:PrK w W P Q m D n E K)(hv:RK.V E) :
  Calls Tryz.prog 23 #[.pointer (some ⟨Q,0,none⟩)] W (TR.AtPost (treeD E) W):=by
 obtain⟨S,T,h1,h2,_⟩:=h;exact ktree_any w W T Q n E h2 hv.fit
theorem PrK.dtrace{w W:World}{P Q m n:Nat}{D E:Dk}{K:Nat->Prop}(h:PrK w W P Q m D n E K)(hm:m<=1000000) :
  Calls Tryz.prog 16 #[.pointer (some ⟨P,0,none⟩)] W (DG.ClPost 75 3 D.trace.length (didsC D.trace) W):=by
 obtain⟨S,T,h1,_⟩:=h;exact DG.trace_of S W P D h1.disk (Nat.le_trans h1.num.trace hm)
theorem PrK.tlen{w W:World}{P Q m n:Nat}{D E:Dk}{K:Nat->Prop}(h:PrK w W P Q m D n E K):D.trace.length<=m:=by
 obtain⟨S,T,h1,_⟩:=h;exact h1.num.trace
theorem PrK.rtrace{w W:World}{P Q m n:Nat}{D E:Dk}{K:Nat->Prop}(h:PrK w W P Q m D n E K):∃ ao c,W.cell? ⟨Q,7,none⟩=some (.slice ao E.trace.length c)/\(0<E.trace.length->∃ g,ao=some ⟨g,0,none⟩/\g<W.heap.size/\∀ j,j<E.trace.length*3->W.cell? ⟨g,j,none⟩=(didsC E.trace)[j]?):=by
 obtain⟨S,T,h1,⟨x,hx⟩,_⟩:=h;obtain⟨ao,c,hv,hc⟩:=owns_view hx.trace;refine⟨ao,c,?_,fun h0=>?_⟩
 ·rw[cell_of_row W Q 7 _ _ _ hx.row,← hv];rfl
 ·obtain⟨g,e,hg,_,bT⟩:=hc h0;exact⟨g,e,hg,bT⟩
theorem dids_at7:∀(l:List Did) (k j:Nat) (e:Did),l[k]?=some e->j<3->(didsC l)[k*3+j]?=(didC e)[j]?
 | [],k,j,n,h,_=>by simp at h
 | x::ns,0,j,n,h,hj=>by
  simp at h;subst h;show(didC x++didsC ns)[0*3+j]?=_;rw[Nat.zero_mul,Nat.zero_add,List.getElem?_append_left (by show j<3;exact hj)]
 | x::ns,k+1,j,n,h,hj=>by
  rw[getElem?_cons_succ]at h;have ih:=dids_at7 ns k j n h hj;show(didC x++didsC ns)[(k+1)*3+j]?=_;rw[List.getElem?_append_right (by show 3<=_;omega),← ih];congr 1;show _-3=_;omega
theorem eq_did7(a b d:ByteArray)(W:World):(Op.equalIn 10000 75 (.agg #[.string a,.string b,.string d]) (.agg #[.string a,.string b,.string d])).run Tryz.prog W=.ok true W:=by
 rw[run_equalIn_struct W 9999 75 _ _ (by kernel_rfl) (by kernel_rfl)];have names:(Tryz.prog.fieldsOf 75).toList.map (fun f=>(f.name,f.type,f.offset))=[("Call",9,0),("Path",9,1),("To",9,2)]:=by kernel_rfl
 obtain⟨f0,f1,f2,e⟩:∃ f0 f1 f2,(Tryz.prog.fieldsOf 75).toList=[f0,f1,f2]:=by
  have hl:=congrArg List.length names;rw[length_map]at hl
  match h:(Tryz.prog.fieldsOf 75).toList,hl with
  | [f0,f1,f2],_=>exact⟨f0,f1,f2,rfl⟩
 rw[e]at names;simp only[List.map_cons,map_nil,List.cons.injEq,Prod.mk.injEq,and_true]at names;obtain⟨⟨n0,t0,o0⟩,⟨n1,t1,o1⟩,n2,t2,o2⟩:=names;rw[e];simp[Op.eqFields,go_sem,n0,n1,n2,t0,t1,t2,o0,o1,o2,Tryz.underlying9]
end RK
end
section
open Go.RowKit Go.Lib Go.BigFrame
namespace RK
open OM TP TM DP DM FP DG TG TR
theorem knew_no(W:World)(ao:Option Addr)(cap:Nat)(t:List Nd)(hl:LayN W ao t)(hs:Small t)(hmx:t.length<=maxLen)(ht:treeB t=false) :
  Calls Tryz.prog 11 #[.slice ao t.length cap] W fun r W'=>r=.returned (.tuple #[.pointer none,.int .i64 60])/\Below W.heap.size W W':=by
 have CK:=hid (rcheck_any ao cap t W hl hs hmx);rw[show checkE t=60 by unfold checkE;rw[ht];rfl]at CK;obtain⟨n,hn⟩:∃ n,t.length=n:=⟨_,rfl⟩;rw[hn]at CK ⊢;clear hl hs hmx ht hn;go_enter Tryz.func11,Tryz.ntmps11;repeat (first|(go_at_call 24;refine CK.out.mono ?_;rintro r w2 ⟨rfl,aH⟩;simp only[];have B2:=hid aH;clear aH)|go_skip|go_guarded|go_step|go_upon)
 go_ret2;exact⟨rfl,B2.out⟩
structure NewAt(W:World)(Q:Nat)(t:List Nd)(k:Nat)(vn vi:Value)(wr:World):Prop where
 row:wr.heap[Q]?=some (.cells #[vn,.slice none 0 0,.slice none 0 0,vi,.bool false,.int .i64 0,.int .i64 0,.slice none 0 0,.slice none 0 0,.slice none 0 0] 57 (0,0))
 names:wr.ownsRow W.heap.size 130 2 vn k (resC (freshes emptyD (t.take k)))
 inos:wr.ownsRow W.heap.size 128 5 vi k (risC ((t.take k).map (freshI emptyD)))
 bel:Below W.heap.size W wr
theorem num_newD{t:List Nd}(h:t.length<=1000):Num 0 (newD t):=num_new h
theorem NewAt.done{W wr:World}{Q:Nat}{t:List Nd}{vn vi:Value}{n:Nat}(h:NewAt W Q t n vn vi wr)(hn:t.length=n)(ht:Tree t)(hQ:W.heap.size<=Q):∃ T,RS W (wr.setCell ⟨Q,1,none⟩ vn) T Q 0 (newD t):=by
 subst hn;have bu:=row_set (j:=1) h.row vn
 have hN:wr.ownsRow W.heap.size 130 2 vn (newD t).names.length (resC (newD t).names):=by
  have h1:=h.names;rw[List.take_length]at h1;have h2:(newD t).names.length=t.length:=by show(freshes emptyD t).length=_;exact freshes_len _ _
  rw[h2];exact h1
 have hI:wr.ownsRow W.heap.size 128 5 vi (newD t).inos.length (risC (newD t).inos):=by
  have h1:=h.inos;rw[List.take_length]at h1;have h2:(newD t).inos.length=t.length:=by show(t.map _).length=_;rw[length_map]
  rw[h2];exact h1
 have bC:IsT wr Q 57:=⟨_,_,h.row⟩;have nQ:∀ g,vn.ownBlock=some g->g≠Q:=fun g hg=>(own_type hN g hg).ne bC (by decide);have iQ:∀ g,vi.ownBlock=some g->g≠Q:=fun g hg=>(own_type hI g hg).ne bC (by decide);have cr:(wr.setCell ⟨Q,1,none⟩ vn).ownsRow W.heap.size 130 2 vn (newD t).names.length (resC (newD t).names):=own_same hN fun g hg=>set_other wr Q 1 g vn (nQ g hg);have bZ:(wr.setCell ⟨Q,1,none⟩ vn).ownsRow W.heap.size 128 5 vi (newD t).inos.length (risC (newD t).inos):=own_same hI fun g hg=>set_other wr Q 1 g vn (iQ g hg);obtain⟨ao,c,hv,hL⟩:=layR_own (T:=fun g=>vn.ownBlock=some g\/vi.ownBlock=some g) cr (fun g hg=>.inl hg);refine⟨fun g=>vn.ownBlock=some g\/vi.ownBlock=some g,⟨ao,c,ao,c,.slice none 0 0,[],vi,.slice none 0 0,none,0,none,0,[]⟩,?_,hL,hL,World.ownsRow_nil _ _ _ _,rfl,(fun g hg=>by cases hg),(fun j a l h1 h2=>by cases h1),own_zero bZ,(fun g hg=>.inr hg),World.ownsRow_nil _ _ _ _,(fun g hg=>by cases hg),⟨(fun ad h1=>by cases h1),(fun ad h1=>by cases h1),(fun _=>rfl),Nat.zero_le _⟩,⟨(fun h1=>absurd h1 (by show ¬ 0<0;omega)),rfl,(fun j e v h1=>by cases h1),(fun _=>rfl),Nat.zero_le _⟩,(fun e he=>by cases he),fun k hk=>?_,hQ,fun k hk=>?_,?_,h.bel.setCell (p:=⟨Q,1,none⟩) hQ vn,num_newD ht.len⟩
 ·rw[bu];unfold rdC;rw[hv];rfl
 ·rcases hk with hk|hk
  ·exact(hN.lt k hk).1
  ·exact(hI.lt k hk).1
 ·rw[set_size];rcases hk with hk|hk
  ·exact(hN.lt k hk).2
  ·exact(hI.lt k hk).2
 ·rintro (hk|hk)
  ·exact nQ Q hk rfl
  ·exact iQ Q hk rfl
theorem knew_any(W:World)(ao:Option Addr)(cap:Nat)(t:List Nd)(hl:LayN W ao t)(ht:Tree t) :
  Calls Tryz.prog 11 #[.slice ao t.length cap] W fun r W'=>∃ T Q,r=.returned (.tuple #[.pointer (some ⟨Q,0,none⟩),.int .i64 0])/\RS W W' T Q 0 (newD t):=by
 obtain⟨i0,bO,ck,bL,cy⟩:=info_parts infoRI;obtain⟨i1,bU,bJ,c6,cp⟩:=info_parts infoRE;have CK:=hid (rcheck_any ao cap t W hl (fun x hx=>⟨by have:=((path_iff x.path).1 (ht.path x hx)).1;omega,by have:=right_data (ht.right x hx);omega⟩) (by have:=ht.len;unfold maxLen;omega));rw[show checkE t=0 by unfold checkE;rw[(tree_iff t).2 ht];rfl,show((0:Nat):Int)=0 from rfl]at CK;obtain⟨n,hn⟩:∃ n,t.length=n:=⟨_,rfl⟩;have c7:n<=1000:=by have:=ht.len;omega
 rw[hn]at CK ⊢;have HN:=hid hn;have HT:=hid ht;have cm:=hid hl;clear hl ht hn;go_enter Tryz.func11,Tryz.ntmps11;repeat (first|(go_at_call 24;refine CK.out.mono ?_;rintro r w2 ⟨rfl,aH⟩;simp only[];have B2:=hid aH;clear aH)|go_skip|go_guarded|go_step|go_upon)
 have ay:=B2.out.size;have R0:Hid (NewAt W w2.heap.size t 0 (.slice none 0 0) (.slice none 0 0) (w2.alloc (.cells #[.slice none 0 0,.slice none 0 0,.slice none 0 0,.slice none 0 0,.bool false,.int .i64 0,.int .i64 0,.slice none 0 0,.slice none 0 0,.slice none 0 0] 57))):=hid ⟨heap_alloc_new w2 _,World.ownsRow_nil _ _ _ _,World.ownsRow_nil _ _ _ _,B2.out.alloc ay _⟩;obtain⟨Q,hQ⟩:∃ Q,w2.heap.size=Q:=⟨_,rfl⟩;rw[hQ]at R0 ay;try rw[hQ]
 clear hQ;have bd:=hid ay
 go_loopw [5] (fun s5 wr=>∃(k:Nat) (vn vi:Value),s5=.int .i64 k/\k<=n/\NewAt W Q t k vn vi wr) (fun s5 _=>n-(RowKit.intOf s5).toNat)
 case atStart=>exact⟨0,_,_,rfl,Nat.zero_le _,R0.out⟩
 case round =>
  obtain⟨k,vn,vi,rfl,hk,aj⟩:=hrel;have ah:=hid aj;obtain⟨an,cn,cz,-⟩:=owns_view aj.names;obtain⟨ai,ci,bK,-⟩:=owns_view aj.inos;subst cz bK;have b4:=aj.bel.size;obtain⟨c0,c1,-,c3,-,-,-,-,-,-,cf⟩:=row10 aj.row;have bn:=(Array.getElem?_eq_some_iff.1 aj.row).1;by_cases hlt:k<n
  ·have bV:(k:Int)<n:=by omega
   obtain⟨y,hy⟩:∃ y,t[k]?=some y:=⟨_,List.getElem?_eq_getElem (by rw[HN.out];exact hlt)⟩;obtain⟨g,o,rfl,hg,hc⟩:=cm.out (by rw[HN.out];omega);obtain⟨d0,d1,d2,d3⟩:=hc k y hy;obtain⟨Y,hY,-⟩:=txt_of y.path;obtain⟨Zs,hZ,-⟩:=txt_of y.data;obtain⟨ky,bw⟩:∃ z,y.kind=z:=⟨_,rfl⟩;obtain⟨my,bv⟩:∃ z,y.mode=z:=⟨_,rfl⟩;rw[hY]at d0;rw[bw]at d1;rw[hZ]at d2;rw[bv]at d3;have e0:=(aj.bel.cell (p:=⟨g,o+k*4,none⟩) hg).trans d0;have e1:=(aj.bel.cell (p:=⟨g,o+k*4+1,none⟩) hg).trans d1;have e2:=(aj.bel.cell (p:=⟨g,o+k*4+2,none⟩) hg).trans d2;have e3:=(aj.bel.cell (p:=⟨g,o+k*4+3,none⟩) hg).trans d3;have E0:=hid e0;have be:t.take (k+1)=t.take k++[y]:=by rw[List.take_add_one,hy];rfl
   have cw:=hid be;obtain⟨ii,bm⟩:∃ i,freshI emptyD y=i:=⟨_,rfl⟩;have cg:=hid bm
   have b6:(#[.int .i64 ky,.int .i64 my,.int .i64 0,.string Zs,.bool false]:Array Value)=(riC ii).toArray:=by
    rw[<- bm,← bw,← bv,← hZ];rfl
   have bM:=hid b6
   have cc:Hid (freshes emptyD (t.take (k+1))=freshes emptyD (t.take k)++[en y.path ((k+1:Nat):Int)]):=hid (by
    rw[be,freshes_snoc];congr 2;unfold freshE;rw[freshAll_len,List.length_take,HN.out];show en y.path ((0+min k n+1:Nat):Int)=_
    rw[Nat.min_eq_left (by omega),Nat.zero_add])
   have bS:=hid hY;have a3:g<wr.heap.size:=Nat.lt_of_lt_of_le hg b4;have cx:g≠Q:=by have:=bd.out;omega
   have HG:=hid hg;clear hc d0 d1 d2 d3 hY hZ bw bv bm b6 be hy hlt aj;repeat (first|go_skip|go_guarded|go_step|go_upon)
   refine wp_region_noPanic ?_;with_reducible refine QT.region_mix (S:=fun w'=>w'.cell? ⟨Q,3,none⟩=some (.slice ai k ci)/\w'.cell? ⟨g,o+k*4+1,none⟩=some (.int .i64 ky)/\w'.cell? ⟨g,o+k*4+2,none⟩=some (.string Zs)/\w'.cell? ⟨g,o+k*4+3,none⟩=some (.int .i64 my)) [(true,0),(true,1),(true,2),(true,3),(true,4),(true,5),(true,6),(true,7),(true,8),(true,9),(true,10),(true,11),(true,12),(true,13),(true,14),(true,15),(true,16),(true,17),(true,18),(true,19),(true,20),(false,21),(false,22)] 23 (by kernel_rfl) (by kernel_rfl) ?_ ?_ ?_
   ·exact fun _ _ _ _ _ h=>h
   ·exact⟨c3,e1,e2,e3⟩
   intro _;simp only[QT.pickM,filterMap_cons,filterMap_nil,getElem?_cons_succ,List.getElem?_cons_zero,Option.map_some,drop_succ_cons,drop_zero];iterate 21 (refine QT.wpMix_take _ (by rfl) (by intro w' au;obtain⟨y0,y1,y2,y3⟩:=au;go_simp;first|done|rfl) ?_;try simp only[Act.put,setIfInBounds_toArray,set_cons_zero,set_cons_succ])
   intro K' hK;rw[if_pos (by rfl)];go_simp;have bA:Below wr.heap.size wr (wr.alloc (.cells #[.int .i64 ky,.int .i64 my,.int .i64 0,.string Zs,.bool false] 128)).drew:=((Below.refl _ _).alloc (Nat.le_refl _) _).drew;have rA:(wr.alloc (.cells #[.int .i64 ky,.int .i64 my,.int .i64 0,.string Zs,.bool false] 128)).drew.heap[wr.heap.size]?=some (.cells #[.int .i64 ky,.int .i64 my,.int .i64 0,.string Zs,.bool false] 128 (0,0)):=heap_alloc_new wr _;refine hK.out _ _ ⟨(bA.cell (p:=⟨Q,3,none⟩) bn).trans c3,(bA.cell (p:=⟨g,o+k*4+1,none⟩) a3).trans e1,(bA.cell (p:=⟨g,o+k*4+2,none⟩) a3).trans e2,(bA.cell (p:=⟨g,o+k*4+3,none⟩) a3).trans e3⟩ ?_;clear hK K';try simp only[Act.put,setIfInBounds_toArray,set_cons_zero,set_cons_succ]
   have BA:=hid bA;have RA:=hid rA;clear bA rA;generalize (wr.alloc (.cells #[.int .i64 ky,.int .i64 my,.int .i64 0,.string Zs,.bool false] 128)).drew=WA at BA RA ⊢;have bz:=BA.out.size
   obtain⟨v',w',ap,ab,aa,-,aq⟩:=run_append_own_at (P:=Tryz.prog) WA W.heap.size 55 55 128 i0 _ 5 48 Tryz.underlying55 bO ck bL cy rfl (by decide) (.slice ai k ci) k (risC ((t.take k).map (freshI emptyD))) (owns_below ah.out.inos BA.out) ⟨wr.heap.size,0,none⟩ 1 1 (riC ii) rfl (fun j u hu=>by
    have e1:(⟨wr.heap.size,0,none⟩:Addr).add j=⟨wr.heap.size,j,none⟩:=by simp[Addr.add];omega
    rw[e1,cell_of_row _ _ j _ _ _ RA.out,← hu,bM.out]
    simp) (ri_one ii) (by unfold maxLen;omega) (by omega) (by omega)
   intro K' hK;refine step_app_eq rfl (.tmp 21) (.tmp 38) 55 55 rfl (.slice ai k ci) (.slice (some ⟨wr.heap.size,0,none⟩) 1 1) rfl rfl ap ?_;have az:(Value.slice ai k ci).ownBlock≠some Q:=fun e=>(own_type ah.out.inos Q e).ne ⟨_,_,ah.out.row⟩ (by decide) rfl;have aw:(Value.slice ai k ci).ownBlock≠some g:=fun e=>by have h1:=(ah.out.inos.lt g e).1;have:=HG.out;omega
   have keep:∀(b j:Nat) (u:Value),b<wr.heap.size->(Value.slice ai k ci).ownBlock≠some b->wr.cell? ⟨b,j,none⟩=some u->w'.cell? ⟨b,j,none⟩=some u:=fun b j u hb hn hc=>(World.cell?_of_block (a:=⟨b,j,none⟩) ((aa.block b (by omega) (fun e=>hn e.symm)).trans (BA.out.block b hb))).trans hc;refine hK.out _ _ ⟨keep _ _ _ bn az c3,keep _ _ _ a3 aw e1,keep _ _ _ a3 aw e2,keep _ _ _ a3 aw e3⟩ ?_;clear hK K';refine QT.wpMix_nil ?_;try simp only[Act.put,setIfInBounds_toArray,set_cons_zero,set_cons_succ]
   obtain⟨a8,c8,bW,-⟩:=owns_view ab;subst bW;have ac:=(aa.block Q (by omega) (fun e=>az e.symm)).trans ((BA.out.block Q bn).trans ah.out.row);have aT:=hid ac;obtain⟨-,-,-,z3,-,-,-,-,-,-,zf⟩:=row10 ac
   have aL:∀ g',(Value.slice a8 (k+1) c8).ownBlock=some g'->g'≠Q:=fun g' hg' e=>by
    rw[e]at hg';exact(own_type ab Q hg').ne ⟨_,_,ac⟩ (by decide) rfl
   have b5:=keep _ _ _ a3 aw E0.out;have bD:=hid ((World.cell?_of_block (a:=⟨g,o+k*4,none⟩) (set_other w' Q 3 g (.slice a8 (k+1) c8) cx)).trans b5);have ag:=hid (row_set (j:=3) ac (.slice a8 (k+1) c8));have aF:=hid (own_same ab fun g' hg'=>set_other w' Q 3 g' (.slice a8 (k+1) c8) (aL g' hg'))
   have a5:Hid ((w'.setCell ⟨Q,3,none⟩ (.slice a8 (k+1) c8)).ownsRow W.heap.size 130 2 (.slice an k cn) k (resC (freshes emptyD (t.take k)))):=hid (own_same ah.out.names fun g' hg'=>by
    have h1:=(ah.out.names.lt g' hg').2;have h2:(Value.slice ai k ci).ownBlock≠some g':=fun e=>(own_type ah.out.names g' hg').ne (own_type ah.out.inos g' e) (by decide) rfl;have h3:g'≠Q:=(own_type ah.out.names g' hg').ne ⟨_,_,ah.out.row⟩ (by decide)
    exact(set_other w' Q 3 g' _ h3).trans ((aa.block g' (by omega) (fun e=>h2 e.symm)).trans (BA.out.block g' h1)))
   have aZ:Hid (Below W.heap.size W (w'.setCell ⟨Q,3,none⟩ (.slice a8 (k+1) c8))):=hid (((Below.trans ah.out.bel (BA.out.mono b4)).grown aa (by omega) (fun j hj=>(ah.out.inos.lt j hj).1)).setCell (p:=⟨Q,3,none⟩) bd.out _);clear ap ab aa aq keep ac az aw c3 e1 e2 e3 aL b5 e0 c0 c1 cf;repeat (first|go_skip|go_guarded|go_step|go_upon)
   refine NoPanic.normal ?_;have aO:(w'.setCell ⟨Q,3,none⟩ (.slice a8 (k+1) c8)).heap.size=w'.heap.size:=set_size _ _ _;generalize w'.setCell ⟨Q,3,none⟩ (.slice a8 (k+1) c8)=W2 at bD ag aF a5 aZ aO ⊢;clear z3 zf aT RA BA bz ah aO
   have c0:W2.cell? ⟨Q,0,none⟩=some (.slice an k cn):=by
    rw[cell_of_row W2 Q 0 _ _ _ ag.out];rfl
   have e0:=bD.out;have br:=(Array.getElem?_eq_some_iff.1 ag.out).1;have aX:g<W2.heap.size:=Nat.lt_of_lt_of_le HG.out aZ.out.size;have bi:=aZ.out.size;have cj:IntKind.i64.wrap ((k:Int)+1)=(k:Int)+1:=by rw[IntKind.wrap_i64];omega
   repeat (first|go_skip|go_guarded|go_step|go_upon)
   refine wp_region_noPanic ?_;with_reducible refine QT.region_mix (S:=fun w'=>w'.cell? ⟨Q,0,none⟩=some (.slice an k cn)/\w'.cell? ⟨g,o+k*4,none⟩=some (.string Y)) [(true,0),(true,1),(true,2),(true,3),(true,4),(true,5),(true,6),(true,7),(true,8),(true,9),(true,10),(true,11),(true,12),(false,13),(false,14)] 15 (by kernel_rfl) (by kernel_rfl) ?_ ?_ ?_
   ·exact fun _ _ _ _ _ h=>h
   ·exact⟨c0,e0⟩
   intro _;simp only[QT.pickM,filterMap_cons,filterMap_nil,getElem?_cons_succ,List.getElem?_cons_zero,Option.map_some,drop_succ_cons,drop_zero];iterate 11 (refine QT.wpMix_take _ (by rfl) (by intro w' au;obtain⟨y0,y1⟩:=au;go_simp;first|done|rfl) ?_;try simp only[Act.put,setIfInBounds_toArray,set_cons_zero,set_cons_succ])
   refine QT.wpMix_take (.int .i64 ((k:Int)+1)) (by rfl) (by intro w' au;go_simp;first|done|rfl|(simp[cj])) ?_;try simp only[Act.put,setIfInBounds_toArray,set_cons_zero,set_cons_succ]
   refine QT.wpMix_take _ (by rfl) (by intro w' au;go_simp;first|done|rfl) ?_;try simp only[Act.put,setIfInBounds_toArray,set_cons_zero,set_cons_succ]
   intro K' hK;rw[if_pos (by rfl)];go_simp;have bA:Below W2.heap.size W2 (W2.alloc (.cells #[.string Y,.int .i64 ((k:Int)+1)] 130)).drew:=((Below.refl _ _).alloc (Nat.le_refl _) _).drew;have rA:(W2.alloc (.cells #[.string Y,.int .i64 ((k:Int)+1)] 130)).drew.heap[W2.heap.size]?=some (.cells #[.string Y,.int .i64 ((k:Int)+1)] 130 (0,0)):=heap_alloc_new W2 _;refine hK.out _ _ ⟨(bA.cell (p:=⟨Q,0,none⟩) br).trans c0,(bA.cell (p:=⟨g,o+k*4,none⟩) aX).trans e0⟩ ?_;clear hK K';try simp only[Act.put,setIfInBounds_toArray,set_cons_zero,set_cons_succ]
   have BA:=hid bA;have RA:=hid rA;clear bA rA;generalize (W2.alloc (.cells #[.string Y,.int .i64 ((k:Int)+1)] 130)).drew=WA at BA RA ⊢;have bz:=BA.out.size
   obtain⟨v',w',ap,ab,aa,-,aq⟩:=run_append_own_at (P:=Tryz.prog) WA W.heap.size 53 53 130 i1 _ 2 24 Tryz.underlying53 bU bJ c6 cp rfl (by decide) (.slice an k cn) k (resC (freshes emptyD (t.take k))) (owns_below a5.out BA.out) ⟨W2.heap.size,0,none⟩ 1 1 (reC (en y.path ((k+1:Nat):Int))) rfl (fun j u hu=>by
    have e1:(⟨W2.heap.size,0,none⟩:Addr).add j=⟨W2.heap.size,j,none⟩:=by simp[Addr.add];omega
    have e2:(#[.string Y,.int .i64 ((k:Int)+1)]:Array Value)=(reC (en y.path ((k+1:Nat):Int))).toArray:=by
     unfold reC;rw[show(en y.path ((k+1:Nat):Int)).path=y.path from rfl,show(en y.path ((k+1:Nat):Int)).kind=(k:Int)+1 by show((k+1:Nat):Int)=_;omega,bS.out]
    rw[e1,cell_of_row _ _ j _ _ _ RA.out,← hu,e2]
    simp) (re_one _) (by unfold maxLen;omega) (by omega) (by omega)
   intro K' hK;refine step_app_eq rfl (.tmp 46) (.tmp 55) 53 53 rfl (.slice an k cn) (.slice (some ⟨W2.heap.size,0,none⟩) 1 1) rfl rfl ap ?_;have az:(Value.slice an k cn).ownBlock≠some Q:=fun e=>(own_type a5.out Q e).ne ⟨_,_,ag.out⟩ (by decide) rfl;have aw:(Value.slice an k cn).ownBlock≠some g:=fun e=>by have h1:=(a5.out.lt g e).1;have:=HG.out;omega
   have keep:∀(b j:Nat) (u:Value),b<W2.heap.size->(Value.slice an k cn).ownBlock≠some b->W2.cell? ⟨b,j,none⟩=some u->w'.cell? ⟨b,j,none⟩=some u:=fun b j u hb hn hc=>(World.cell?_of_block (a:=⟨b,j,none⟩) ((aa.block b (by omega) (fun e=>hn e.symm)).trans (BA.out.block b hb))).trans hc;refine hK.out _ _ ⟨keep _ _ _ br az c0,keep _ _ _ aX aw e0⟩ ?_;clear hK K';refine QT.wpMix_nil ?_;try simp only[Act.put,setIfInBounds_toArray,set_cons_zero,set_cons_succ]
   obtain⟨a9,c9,bP,-⟩:=owns_view ab;subst bP;have ac:=(aa.block Q (by omega) (fun e=>az e.symm)).trans ((BA.out.block Q br).trans ag.out);obtain⟨z0,-,-,-,-,-,-,-,-,-,zf⟩:=row10 ac
   have aL:∀ g',(Value.slice a9 (k+1) c9).ownBlock=some g'->g'≠Q:=fun g' hg' e=>by
    rw[e]at hg';exact(own_type ab Q hg').ne ⟨_,_,ac⟩ (by decide) rfl
   have av:=hid (row_set (j:=0) ac (.slice a9 (k+1) c9));have bH:=hid (own_same ab fun g' hg'=>set_other w' Q 0 g' (.slice a9 (k+1) c9) (aL g' hg'))
   have bG:Hid ((w'.setCell ⟨Q,0,none⟩ (.slice a9 (k+1) c9)).ownsRow W.heap.size 128 5 (.slice a8 (k+1) c8) (k+1) (risC ((t.take k).map (freshI emptyD))++riC ii)):=hid (own_same aF.out fun g' hg'=>by
    have h1:=(aF.out.lt g' hg').2;have h2:(Value.slice an k cn).ownBlock≠some g':=fun e=>(own_type aF.out g' hg').ne (own_type a5.out g' e) (by decide) rfl;have h3:g'≠Q:=(own_type aF.out g' hg').ne ⟨_,_,ag.out⟩ (by decide)
    exact(set_other w' Q 0 g' _ h3).trans ((aa.block g' (by omega) (fun e=>h2 e.symm)).trans (BA.out.block g' h1)))
   have b8:Hid (Below W.heap.size W (w'.setCell ⟨Q,0,none⟩ (.slice a9 (k+1) c9))):=hid (((Below.trans aZ.out (BA.out.mono bi)).grown aa (by omega) (fun j hj=>(a5.out.lt j hj).1)).setCell (p:=⟨Q,0,none⟩) bd.out _);clear ap ab aa aq keep ac az aw aL e0 c0;repeat (first|go_skip|go_guarded|go_step|go_upon)
   refine NoPanic.normal ?_;repeat (first|go_skip|go_guarded|go_step|go_upon)
   have aQ:Hid (NewAt W Q t (k+1) (.slice a9 (k+1) c9) (.slice a8 (k+1) c8) (w'.setCell ⟨Q,0,none⟩ (.slice a9 (k+1) c9))):=hid ⟨av.out,by rw[cc.out,res_snoc];exact bH.out,by rw[cw.out,List.map_append,List.map_cons,map_nil,cg.out,ris_snoc];exact bG.out,b8.out⟩;clear av bH bG b8 zf z0
   go_round
   case rel=>exact⟨k+1,_,_,by go_num,by omega,aQ.out⟩
   case measure=>simp[RowKit.intOf];omega
  ·have bV:¬(k:Int)<n:=by omega
   have bN:k=n:=by omega
   subst bN;have HD:=hid (aj.done HN.out HT.out bd.out);clear aj hlt;repeat (first|go_skip|go_guarded|go_step|go_upon)
   go_ret2;obtain⟨T,hT⟩:=HD.out;exact⟨T,Q,rfl,hT⟩
end RK
end
section
open Go.RowKit Go.Lib Go.BigFrame
namespace RK
open OM TP TM DP DM FP DG TG TR
theorem rtexts_own(v1 v2:Value)(xs:List (List UInt8))(b1 b2:Nat)(w:World)(h1:w.ownsRow b1 9 1 v1 xs.length (xs.map txt))(h2:w.ownsRow b2 9 1 v2 xs.length (xs.map txt))(hl:xs.length<=1000000) :
  Calls Tryz.prog 21 #[v1,v2] w fun e w'=>e=.returned (.bool true)/\Below w.heap.size w w':=by
 obtain⟨a1,c1,rfl,bq⟩:=owns_view h1;obtain⟨a2,c2,rfl,bp⟩:=owns_view h2;obtain⟨n,hn⟩:∃ n,xs.length=n:=⟨_,rfl⟩;have HN:=hid hn;rw[hn]at bq bp hl ⊢;have H1:=hid bq;have H2:=hid bp;clear h1 h2 bq bp hn;go_enter Tryz.func21,Tryz.ntmps21;go_wp2
 go_loopw [5] (fun i wr=>∃ k:Nat,k<=n/\i=.int .i64 k/\Below w.heap.size w wr) (fun i _=>n-(RowKit.intOf i).toNat)
 case atStart=>exact⟨0,Nat.zero_le _,rfl,Below.refl _ _⟩
 case round =>
  obtain⟨k,hk,rfl,aJ⟩:=hrel;have ar:=hid aJ;clear aJ;by_cases hlt:k<n
  ·obtain⟨x,hx⟩:∃ x,xs[k]?=some x:=⟨_,List.getElem?_eq_getElem (by rw[HN.out];exact hlt)⟩;have hz:(k:Int)<n:=by omega
   obtain⟨g1,rfl,cd,_,b7⟩:=H1.out (by omega);obtain⟨g2,rfl,aX,_,bE⟩:=H2.out (by omega);obtain⟨X,hX,_⟩:=txt_of x;have ca:wr.cell? ⟨g1,k,none⟩=some (.string X):=by rw[ar.out.cell (p:=⟨g1,k,none⟩) cd,b7 k (by omega),List.getElem?_map,hx,← hX];rfl
   have cb:wr.cell? ⟨g2,k,none⟩=some (.string X):=by rw[ar.out.cell (p:=⟨g2,k,none⟩) aX,bE k (by omega),List.getElem?_map,hx,← hX];rfl
   clear hx hX b7 bE;repeat (first|go_skip|go_guarded|go_step|go_upon)
   refine wp_region_noPanic ?_;with_reducible refine QT.region_mix (S:=fun w'=>w'.cell? ⟨g1,k,none⟩=some (.string X)/\w'.cell? ⟨g2,k,none⟩=some (.string X)) [(true,0),(true,1),(true,2),(true,3),(true,4),(true,5),(true,6),(true,7)] 8 (by kernel_rfl) (by kernel_rfl) ?_ ?_ ?_
   ·exact fun _ _ _ _ _ h=>h
   ·exact⟨ca,cb⟩
   intro _;simp only[QT.pickM,filterMap_cons,filterMap_nil,getElem?_cons_succ,List.getElem?_cons_zero,Option.map_some,drop_succ_cons,drop_zero];iterate 8 (refine QT.wpMix_take _ (by rfl) (by intro w' au;obtain⟨y0,y1⟩:=au;go_simp;first|done|rfl|simp) ?_;try simp only[Act.put,setIfInBounds_toArray,set_cons_zero,set_cons_succ])
   refine QT.wpMix_nil ?_;repeat (first|go_skip|go_guarded|go_step|go_upon)
   refine NoPanic.normal ?_;repeat (first|go_skip|go_guarded|go_step|go_upon)
   exact⟨⟨k+1,by omega,by go_num,ar.out.drew⟩,by simp[RowKit.intOf];omega⟩
  ·have hz:¬(k:Int)<n:=by omega
   repeat (first|go_skip|go_guarded|go_step|go_upon)
   go_ret;exact⟨rfl,ar.out⟩
end RK
end
section
open Go.RowKit Go.Lib Go.BigFrame
namespace RK
open OM TP TM DP DM FP DG TG TR
theorem texts_len{D:Dk}(h:RK.V D)(c:Cal):(askD D c).2.texts.length<=1000:=by
 have h0:∀ e,(errA e).texts.length<=1000:=fun e=>Nat.zero_le _;unfold askD;split
 ·exact h0 _
 split
 ·exact h0 _
 split
 ·exact h0 _
 split
 ·exact h0 _
 split
 ·exact h0 _
 split
 ·exact h0 _
 split
 ·exact h0 _
 split
 ·exact h0 _
 split
 ·exact Nat.zero_le _
 split
 ·show(lastsR (namesR D c.path) c.path).length<=1000;unfold lastsR;split
  ·have h1:=h.namesD c.path;rw[DG.names_eq]at h1;have h2:=h1.names.len;unfold lastsL inE;refine Nat.le_trans (List.length_filter_le _ _) ?_;rw[length_map];exact Nat.le_trans (List.length_filter_le _ _) h2
  ·exact Nat.zero_le _
 split
 ·exact h0 _
 ·exact h0 _
theorem did_any(ao bo:Option Addr)(ca cb:Nat)(l:List Did)(w:World)(ha:0<l.length->∃ g,ao=some ⟨g,0,none⟩/\g<w.heap.size/\∀ j,j<l.length*3->w.cell? ⟨g,j,none⟩=(didsC l)[j]?)
  (hb:0<l.length->∃ g,bo=some ⟨g,0,none⟩/\g<w.heap.size/\∀ j,j<l.length*3->w.cell? ⟨g,j,none⟩=(didsC l)[j]?) (hl:l.length<=1000) :
  Calls Tryz.prog 25 #[.slice ao l.length ca,.slice bo l.length cb] w fun r w'=>r=.returned (.bool true)/\Below w.heap.size w w':=by
 obtain⟨L,hL⟩:∃ n,l.length=n:=⟨_,rfl⟩;have HL:=hid hL;rw[hL]at ha hb hl ⊢;have HA:=hid ha;have HB:=hid hb;have cC:(L:Int)<=1000:=by omega
 clear ha hb hL;go_enter Tryz.func25,Tryz.ntmps25;repeat (first|go_skip|go_guarded|go_step|go_upon)
 go_loopw [13] (fun s13 wq=>∃ i:Nat,s13=.int .i64 i/\i<=L/\Below w.heap.size w wq) (fun s13 _=>L-(RowKit.intOf s13).toNat)
 case atStart=>exact⟨0,rfl,Nat.zero_le _,Below.refl _ _⟩
 case round =>
  obtain⟨i,rfl,hi,aJ⟩:=hrel;have ar:=hid aJ;clear aJ;by_cases hil:i<L
  ·have cu:(i:Int)<L:=by omega
   obtain⟨d,hd⟩:∃ d,l[i]?=some d:=⟨l[i]'(by rw[HL.out];exact hil),List.getElem?_eq_getElem _⟩;obtain⟨g6,rfl,c5,aM⟩:=HA.out (by omega);obtain⟨g7,rfl,bQ,aN⟩:=HB.out (by omega);have h6:∀ j,j<3->wr.cell? ⟨g6,i*3+j,none⟩=(didC d)[j]?:=fun j hj=>(ar.out.cell (p:=⟨g6,i*3+j,none⟩) c5).trans ((aM (i*3+j) (by omega)).trans (dids_at7 _ _ _ _ hd hj));have h7:∀ j,j<3->wr.cell? ⟨g7,i*3+j,none⟩=(didC d)[j]?:=fun j hj=>(ar.out.cell (p:=⟨g7,i*3+j,none⟩) bQ).trans ((aN (i*3+j) (by omega)).trans (dids_at7 _ _ _ _ hd hj));obtain⟨Y1,bs,_⟩:=txt_of d.call;obtain⟨Y2,bt,_⟩:=txt_of d.path;obtain⟨Y3,bg,_⟩:=txt_of d.to;have p0:wr.cell? ⟨g6,i*3,none⟩=some (.string Y1):=(h6 0 (by omega)).trans (by rw[<- bs];rfl);have p1:wr.cell? ⟨g6,i*3+1,none⟩=some (.string Y2):=(h6 1 (by omega)).trans (by rw[<- bt];rfl);have p2:wr.cell? ⟨g6,i*3+2,none⟩=some (.string Y3):=(h6 2 (by omega)).trans (by rw[<- bg];rfl);have q0:wr.cell? ⟨g7,i*3,none⟩=some (.string Y1):=(h7 0 (by omega)).trans (by rw[<- bs];rfl);have q1:wr.cell? ⟨g7,i*3+1,none⟩=some (.string Y2):=(h7 1 (by omega)).trans (by rw[<- bt];rfl);have q2:wr.cell? ⟨g7,i*3+2,none⟩=some (.string Y3):=(h7 2 (by omega)).trans (by rw[<- bg];rfl);have qe:=eq_did7 Y1 Y2 Y3;clear h6 h7 aM aN bs bt bg hd;repeat (first|go_skip|go_guarded|go_step|go_upon)
   refine wp_region_noPanic ?_;with_reducible refine QT.region_mix (S:=fun w'=>w'.cell? ⟨g6,i*3,none⟩=some (.string Y1)/\w'.cell? ⟨g6,i*3+1,none⟩=some (.string Y2)/\w'.cell? ⟨g6,i*3+2,none⟩=some (.string Y3)/\w'.cell? ⟨g7,i*3,none⟩=some (.string Y1)/\w'.cell? ⟨g7,i*3+1,none⟩=some (.string Y2)/\w'.cell? ⟨g7,i*3+2,none⟩=some (.string Y3)) [(true,0),(true,1),(true,2),(true,3),(true,4),(true,5),(true,6),(true,7)] 8 (by kernel_rfl) (by kernel_rfl) ?_ ?_ ?_
   ·exact fun _ _ _ _ _ h=>h
   ·exact⟨p0,p1,p2,q0,q1,q2⟩
   intro _;simp only[QT.pickM,filterMap_cons,filterMap_nil,getElem?_cons_succ,List.getElem?_cons_zero,Option.map_some,drop_succ_cons,drop_zero];iterate 8 (refine QT.wpMix_take _ (by rfl) (by intro w' au;obtain⟨y0,y1,y2,y3,y4,y5⟩:=au;go_simp;first|done|rfl|simp) ?_;try simp only[Act.put,setIfInBounds_toArray,set_cons_zero,set_cons_succ])
   refine QT.wpMix_nil ?_;repeat (first|go_skip|go_guarded|go_step|go_upon)
   refine NoPanic.normal ?_;repeat (first|go_skip|go_guarded|go_step|go_upon)
   exact⟨⟨i+1,by go_num,by omega,ar.out.drew⟩,by simp[RowKit.intOf];omega⟩
  ·have cu:¬(i:Int)<L:=by omega
   clear hil;repeat (first|go_skip|go_guarded|go_step|go_upon)
   go_ret;exact⟨rfl,ar.out⟩
end RK
end
section
open Go.RowKit Go.Lib Go.BigFrame
namespace RK
open OM TP TM DP DM FP DG TG TR
theorem kin_any(w W:World)(T:Nat->Prop)(Q m:Nat)(D:Dk)(p:List UInt8)(h:RS w W T Q m D)(hv:V D)(hm:m+1<=1000)(hp:p.length<=1048576) :
  Calls Tryz.prog 85 #[.pointer (some ⟨Q,0,none⟩),txt p] W fun r W'=>∃ v,r=.returned (.tuple #[v,.int .i64 (namesR D p).2])/\W'.ownsRow W.heap.size 9 1 v (lastsR (namesR D p) p).length ((lastsR (namesR D p) p).map txt)/\RAftN w W T Q (m+1) (namesR D p).1 v W':=by
 obtain⟨P,hP,b9⟩:=txt_of p;have bx:=h.lts;obtain⟨x,hx⟩:=h;obtain⟨E,hE⟩:∃ E,(stepD D ⟨cNames,p,[]⟩).1=E:=⟨_,rfl⟩;obtain⟨er,aD⟩:∃ e,(stepD D ⟨cNames,p,[]⟩).2=e:=⟨_,rfl⟩;have bf:=step_num hx.num ⟨cNames,p,[]⟩
 have CS:Hid (Calls Tryz.prog 132 #[.pointer (some ⟨Q,0,none⟩),.string ⟨#[78,97,109,101,115]⟩,.string P,.string ⟨#[]⟩] W fun r w'=>(∃ b,r=.returned (.tuple #[.int .i64 er,.bool b]))/\RAft w W T Q (m+1) E w'):=hid (by
  have:=kstep_any w W T Q m D ⟨cNames,p,[]⟩ ⟨x,hx⟩ hv hm;unfold fullB at this;rw[hE,aD]at this;simp only at this;rw[hP]at this;refine this.mono ?_;rintro r w' ⟨⟨b,h1,_⟩,h2⟩
  exact⟨⟨b,h1⟩,h2⟩)
 have bb:Hid (er≠0->namesR D p=(E,er)):=hid (fun h0=>by
  unfold namesR
  rw[after_no (by rw[aD];exact h0),← hE,← aD])
 have bc:Hid (er=0->namesR D p=refuse (firstE [missE E p,whenE (!decide (kindD E p=2)) 73]) E E):=hid (fun h0=>by
  unfold namesR
  rw[after_yes (by rw[aD];exact h0),← hE])
 have ak:Hid (V E):=hid (hE ▸ hv.step ⟨cNames,p,[]⟩);have HP:=hid hP;have aW:=hid b9;have bX:=hid hp;obtain⟨Z,hZ⟩:∃ Z,namesR D p=Z:=⟨_,rfl⟩;rw[hZ]at bb bc;rw[hZ,hP];clear hx hv hE aD bf hZ hP b9 hp bx;go_enter Tryz.func85,Tryz.ntmps85;repeat (first|go_skip|go_guarded|go_step|go_upon)
 refine CS.out.mono ?_;rintro r w1 ⟨⟨fb,rfl⟩,T1,⟨x1,a6⟩,bl,aY⟩;simp only[];have ba:Hid (∀ W',Below w1.heap.size w1 W'->RAftN w W T Q (m+1) E (.slice none 0 0) W'):=hid (fun W' hb=>⟨T1,(show RS w w1 T1 Q (m+1) E from⟨x1,a6⟩).below hb,bl,aY.thenBelow hb,fun g hg=>by cases hg⟩)
 have bB:Hid (∀ W' v,Below w1.heap.size w1 W'->(∀ g,v.ownBlock=some g->w1.heap.size<=g)->RAftN w W T Q (m+1) E v W'):=hid (fun W' v hb hg=>⟨T1,(show RS w w1 T1 Q (m+1) E from⟨x1,a6⟩).below hb,bl,aY.thenBelow hb,fun g hh=>by
  have h1:=hg g hh;obtain⟨l1,l2⟩:=(show RS w w1 T1 Q (m+1) E from⟨x1,a6⟩).lts
  exact⟨fun h2=>by have:=l2 g h2;omega,by omega⟩⟩)
 have b3:Hid (W.heap.size<=w1.heap.size):=hid aY.size;have aV:=hid a6;clear bl aY CS;by_cases h0:er=0
 ·have HZ:=hid (bc.out h0);subst h0;clear bb bc;have B:=hid (Below.refl w1.heap.size w1);clear a6;have CP:=hid (fun V=>rpath_txt P p aW.out bX.out V)
  have bY:Hid (∀ V,Below w1.heap.size w1 V->Calls Tryz.prog 134 #[.pointer (some ⟨Q,0,none⟩),.string P] V fun r w'=>∃ z,r=.returned (.int .i64 z)/\FindSays E.names p z/\Below V.heap.size V w'):=hid (fun V hV=>by
   have:=kfind_any w V T1 Q (m+1) E p ⟨x1,aV.out.below hV⟩ ak.out.names.len;rw[HP.out]at this
   exact this)
  have aA:Hid (∀ V,Below w1.heap.size w1 V->Calls Tryz.prog 133 #[.pointer (some ⟨Q,0,none⟩),.string P] V fun r w'=>r=.returned (.bool (decide (kindD E p=2)))/\Below V.heap.size V w'):=hid (fun V hV=>by
   have:=kdir_any w V T1 Q (m+1) E p ⟨x1,aV.out.below hV⟩ ak.out.fit;rw[HP.out]at this
   exact this)
  by_cases hp0:p=[]
  ·have ct:(P.toList==([]:List UInt8))=true:=by rw[toList_data,aW.out,hp0];rfl
   have bR:(P.toList != ([]:List UInt8))=false:=by rw[toList_data,aW.out,hp0];rfl
   have a7:kindD E p=2:=by unfold kindD kindN;rw[if_pos hp0]
   have cv:=hid aA.out;rw[decide_eq_true a7]at aA;have am:Hid (Z=(E,0)):=hid (by rw[HZ.out];subst hp0;simp[missE,refuse,firstE,whenE,a7])
   have bh:Hid (namesL (treeD E) p=lastsR Z p):=hid (by
    rw[names_treeD ak.out (.inl hp0) a7,am.out]
    rfl)
   clear hp0 a7 cv;repeat (first|(go_at_call 133;(with_reducible refine OM.onB (aA.out _ B.out) B ?_);intro w2 B;simp only[])|go_skip|go_guarded|go_step|go_upon)
   refine(ktree_any w _ T1 Q (m+1) E ⟨x1,aV.out.below B.out⟩ ak.out.fit).mono ?_;rintro r w4 ⟨v4,rfl,aI,aU⟩;simp only[];have B:=hid (Below.trans B.out (aU.mono B.out.size));obtain⟨a4,c4,bk,aS⟩:=lay_own aI;subst bk;have aG:=ak.out.names_small;have CN:=rnames_any a4 c4 (treeD E) p w4 aS aG (by have:=ak.out.tree.len;unfold maxLen;omega);rw[HP.out]at CN;have aE:=hid CN;obtain⟨n4,aR⟩:∃ n,(treeD E).length=n:=⟨_,rfl⟩;rw[aR]at aE ⊢;clear aI aU aS aG CN aR;repeat (first|go_skip|go_guarded|go_step|go_upon)
   refine aE.out.mono ?_;rintro r w5 ⟨v5,rfl,ax,aP⟩;simp only[];rw[bh.out]at ax;have a0:=hid ax;have BL:=hid B.out;have B:=hid (Below.trans B.out (aP.mono B.out.size));clear ax aP;repeat (first|go_skip|go_guarded|go_step|go_upon)
   go_ret2;rw[am.out]at a0 ⊢
   refine⟨_,rfl,owns_base a0.out _ (by have:=BL.out.size;have:=b3.out;omega),bB.out _ _ B.out (fun g hg=>by
    have h1:=(a0.out.lt g hg).1;have:=BL.out.size
    omega)⟩
  ·have ct:(P.toList==([]:List UInt8))=false:=by rw[toList_data,aW.out];simpa using hp0
   have bR:(P.toList != ([]:List UInt8))=true:=by rw[toList_data,aW.out];simpa using hp0
   obtain⟨pb,al⟩:∃ b,NP.pathL p=b:=⟨_,rfl⟩;rw[al]at CP
   cases pb with
   | false =>
    have am:Hid (Z=(E,11)):=hid (by rw[HZ.out];simp[missE,refuse,firstE,whenE,hp0,al]);clear hp0 al;repeat (first|(go_at_call 86;(with_reducible refine OM.onB (CP.out _) B ?_);intro w2 B;simp only[])|go_skip|go_guarded|go_step|go_upon)
    go_ret2;rw[am.out];exact⟨_,rfl,World.ownsRow_nil _ _ _ _,ba.out _ B.out⟩
   | true =>
    repeat (first|(go_at_call 86;(with_reducible refine OM.onB (CP.out _) B ?_);intro w2 B;simp only[])|go_skip|go_guarded|go_step|go_upon)
    refine(bY.out _ B.out).mono ?_;rintro r w3 ⟨z,rfl,bj,bF⟩;simp only[];have B:=hid (Below.trans B.out (bF.mono B.out.size));clear bF;rcases found_at (aV.out.below B.out) ak.out (path_ne al) bj with ⟨rfl,aC,bI⟩|⟨k,q0,i,n,ni,g,o,cn,gi,ci,rfl,hf⟩
    ·have am:Hid (Z=(E,74)):=hid (by rw[HZ.out];simp[missE,refuse,firstE,whenE,hp0,al,aC]);clear hp0 al aC bI bj;repeat (first|go_skip|go_guarded|go_step|go_upon)
     go_ret2;rw[am.out];exact⟨_,rfl,World.ownsRow_nil _ _ _ _,ba.out _ B.out⟩
    ·have aC:kindD E p≠0:=by
      rw[hf.knd];rcases okI_kind hf.ok with h|h|h<;>omega
     have cD:¬((k:Int)<0):=by omega
     clear bj hf;obtain⟨a,ha⟩:∃ a,decide (kindD E p=2)=a:=⟨_,rfl⟩;rw[ha]at aA
     cases a with
     | false =>
      have aB:¬ kindD E p=2:=of_decide_eq_false ha;have am:Hid (Z=(E,73)):=hid (by rw[HZ.out];simp[missE,refuse,firstE,whenE,hp0,al,aC,aB]);clear hp0 al aC ha aB;repeat (first|(go_at_call 133;(with_reducible refine OM.onB (aA.out _ B.out) B ?_);intro w2 B;simp only[])|go_skip|go_guarded|go_step|go_upon)
      go_ret2;rw[am.out];exact⟨_,rfl,World.ownsRow_nil _ _ _ _,ba.out _ B.out⟩
     | true =>
      have aB:kindD E p=2:=of_decide_eq_true ha;have am:Hid (Z=(E,0)):=hid (by rw[HZ.out];simp[missE,refuse,firstE,whenE,hp0,al,aB])
      have bh:Hid (namesL (treeD E) p=lastsR Z p):=hid (by
       rw[names_treeD ak.out (.inr al) aB,am.out]
       rfl)
      clear hp0 al aC ha aB;repeat (first|(go_at_call 133;(with_reducible refine OM.onB (aA.out _ B.out) B ?_);intro w2 B;simp only[])|go_skip|go_guarded|go_step|go_upon)
      refine(ktree_any w _ T1 Q (m+1) E ⟨x1,aV.out.below B.out⟩ ak.out.fit).mono ?_;rintro r w4 ⟨v4,rfl,aI,aU⟩;simp only[];have B:=hid (Below.trans B.out (aU.mono B.out.size));obtain⟨a4,c4,bk,aS⟩:=lay_own aI;subst bk;have aG:=ak.out.names_small;have CN:=rnames_any a4 c4 (treeD E) p w4 aS aG (by have:=ak.out.tree.len;unfold maxLen;omega);rw[HP.out]at CN;have aE:=hid CN;obtain⟨n4,aR⟩:∃ n,(treeD E).length=n:=⟨_,rfl⟩;rw[aR]at aE ⊢;clear aI aU aS aG CN aR;repeat (first|go_skip|go_guarded|go_step|go_upon)
      refine aE.out.mono ?_;rintro r w5 ⟨v5,rfl,ax,aP⟩;simp only[];rw[bh.out]at ax;have a0:=hid ax;have BL:=hid B.out;have B:=hid (Below.trans B.out (aP.mono B.out.size));clear ax aP;repeat (first|go_skip|go_guarded|go_step|go_upon)
      go_ret2;rw[am.out]at a0 ⊢
      refine⟨_,rfl,owns_base a0.out _ (by have:=BL.out.size;have:=b3.out;omega),bB.out _ _ B.out (fun g hg=>by
       have h1:=(a0.out.lt g hg).1;have:=BL.out.size
       omega)⟩
 ·have HZ:=hid (bb.out h0);have cB:(er != 0)=true:=by simpa using h0
  have co:(er==0)=false:=by simpa using h0
  have HL:Hid (lastsR (E,er) p=[]):=hid (if_neg (by simpa using h0));clear a6 h0 bb bc;repeat (first|go_skip|go_guarded|go_step|go_upon)
  go_ret2;rw[HZ.out];exact⟨_,rfl,by rw[HL.out];exact World.ownsRow_nil _ _ _ _,ba.out _ (Below.refl _ _)⟩
end RK
end
end Go.Proofs.YtkmcjededpamnaaGreatDoor
