import Derived.Test.YtkmcjededpamnaaGreatDoorMg10
import Derived.Test.YtkmcjededpamnaaGreatDoorMg3
import Derived.Test.YtkmcjededpamnaaGreatDoorMg8
import Derived.Test.YtkmcjededpamnaaGreatDoorMg2
set_option linter.all false
set_option maxRecDepth 100000
set_option maxHeartbeats 0
namespace Go.Proofs.YtkmcjededpamnaaGreatDoor
open List(length_append getElem?_eq_getElem length_cons)
section
open Go.RowKit Go.Lib Go.BigFrame
namespace DG
open OM TP TM DP DM TG TR FP
structure EdCell(W:World)(g o:Nat)(e:Edit)(v:Ev):Prop where
 a:W.cell? ⟨g,o,none⟩=some (.int .i64 e.at_)
 p:W.cell? ⟨g,o+1,none⟩=some (txt e.path)
 s:W.cell? ⟨g,o+2,none⟩=some (.slice v.a e.value.length v.c)
def LayU(W:World)(au:Option Addr)(es:List Edit)(vs:List Ev):Prop :=
 0<es.length->∃ g o,au=some ⟨g,o,none⟩/\g<W.heap.size/\∀(k:Nat) (e:Edit) (v:Ev),es[k]?=some e->vs[k]?=some v->EdCell W g (o+k*3) e v
structure EdArg(W:World)(au:Option Addr)(cu:Nat)(es:List Edit)(vs:List Ev):Prop where
 lay:LayU W au es vs
 lens:vs.length=es.length
 vals:∀(j:Nat) (e:Edit) (v:Ev),es[j]?=some e->vs[j]?=some v->TW.Wide W v.a v.c e.value/\e.value.length<=1048576
 no:au=none->cu=0
 cap:es.length<=cu
theorem edits_len:∀(es:List Edit) (vs:List Ev),vs.length=es.length->(editsC es vs).length=es.length*3
 | [],[],_=>rfl
 | e::es,v::vs,h=>by
  have ih:=edits_len es vs (by simpa using h);show(editV (e,v)++editsC es vs).length=_;rw[length_append,ih,length_cons];show 3+_=_;omega
theorem edits_cells:∀(es:List Edit) (vs:List Ev) (k:Nat) (e:Edit) (v:Ev),es[k]?=some e->vs[k]?=some v ->
  (editsC es vs)[k*3]?=some (.int .i64 e.at_)/\(editsC es vs)[k*3+1]?=some (txt e.path)/\(editsC es vs)[k*3+2]?=some (.slice v.a e.value.length v.c)
 | x::es,y::vs,0,e,v,h1,h2=>by
  simp at h1 h2;subst h1 h2;exact⟨rfl,rfl,rfl⟩
 | x::es,y::vs,k+1,e,v,h1,h2=>by
  have ih:=edits_cells es vs k e v (by simpa using h1) (by simpa using h2)
  have s:∀ j,(editsC (x::es) (y::vs))[(k+1)*3+j]?=(editsC es vs)[k*3+j]?:=fun j=>by
   show(editV (x,y)++editsC es vs)[_]?=_;rw[List.getElem?_append_right (by show 3<=_;omega)];congr 1;show(k+1)*3+j-3=_;omega
  exact⟨(s 0).trans ih.1,(s 1).trans ih.2.1,(s 2).trans ih.2.2⟩
theorem edits_one(es:List Edit)(vs:List Ev):∀ u∈editsC es vs,u.oneCell'=true:=fun u hu=>by
 obtain⟨e,_,hu⟩:=List.mem_flatMap.1 hu;unfold editV at hu;simp at hu;rcases hu with rfl|rfl|rfl<;>rfl
theorem edits_set:∀(es:List Edit) (vs:List Ev) (k:Nat) (e:Edit) (v:Ev),es[k]?=some e->k<vs.length->(editsC es vs).set (k*3+2) (.slice v.a e.value.length v.c)=editsC es (vs.set k v)
 | x::es,y::vs,0,e,v,h1,_=>by
  simp at h1;subst h1;rfl
 | x::es,y::vs,k+1,e,v,h1,h2=>by
  have ih:=edits_set es vs k e v (by simpa using h1) (by simpa using h2);show(editV (x,y)++editsC es vs).set ((k+1)*3+2) _=editV (x,y)++editsC es (vs.set k v);rw[<- ih,List.set_append_right _ _ (by show 3<=_;omega)];congr 2;show(k+1)*3+2-3=_;omega
theorem mix_set{vs evs:List Ev}{k:Nat}(ev:Ev)(h:evs.length=k)(hk:k<vs.length):(evs++vs.drop k).set k ev=(evs++[ev])++vs.drop (k+1):=by
 rw[List.set_append_right _ _ (by omega),h,Nat.sub_self,List.drop_eq_getElem_cons hk,List.append_assoc];rfl
theorem own_store{W:World}{B e size g n c:Nat}{xs:List Value}(h:W.ownsRow B e size (.slice (some ⟨g,0,none⟩) n c) n xs)(j:Nat)(hj:j<n*size)(u:Value):(W.setCell ⟨g,j,none⟩ u).ownsRow B e size (.slice (some ⟨g,0,none⟩) n c) n (xs.set j u):=by
 obtain⟨h1,h2|⟨g',cap,ak,e1,h3,h4,h5,h6,h7,h8⟩⟩:=h
 ·cases h2.1
 ·injection e1 with e1 _ e2;injection e1 with e1;injection e1 with e1 _ _;subst e1 e2;refine⟨by rw[List.length_set];exact h1,.inr ⟨g,c,ak.setIfInBounds j u,rfl,h3,row_set h4 u,h5,h6,by simpa using h7,?_⟩⟩;rw[Array.toList_setIfInBounds,List.take_set,h8]
def BootInv(w w0:World)(P n:Nat)(D:Dk)(x:Parts)(v1 v2:Value)(es:List Edit)(vs:List Ev)(fs:List Fate)(s28:Value)(wr:World):Prop :=
 ∃(k:Nat) (evs:List Ev),s28=.int .i64 k/\k<=n/\evs.length=k/\Out (fun k=>k=P) w wr/\Below w0.heap.size w0 wr /\
  wr.heap[P]?=some (.cells #[x.vn,x.vs,x.vc,.bool true,.int .i64 (D.inos.length:Nat),.int .i64 (D.clock:Nat),v1,v2,.slice none 0 0] 122 (0,0)) /\
  wr.ownsRow w.heap.size 116 4 v1 fs.length (fatesC fs)/\wr.ownsRow w.heap.size 86 3 v2 n (editsC es (evs++vs.drop k)) /\
  ∀(j:Nat) (e:Edit) (v:Ev),es[j]?=some e->evs[j]?=some v->wr.ownsRow w.heap.size 45 4 (.slice v.a e.value.length v.c) e.value.length (nodesC e.value)
theorem lay_cells{W:World}{ao:Option Addr}{ts:List Nd}(h:LayN W ao ts):∀ ad,ao=some ad->∀(j:Nat) (u:Value),(nodesC ts)[j]?=some u->W.cell? (ad.add j)=some u:=fun ad ha j u hu=>by
 have hl:=nodes_len ts;have hj:=(List.getElem?_eq_some_iff.1 hu).1;obtain⟨g,o,rfl,_,hc⟩:=h (by omega);injection ha with ha;subst ha;have hk:j / 4<ts.length:=by omega
 obtain⟨n,hn⟩:∃ n,ts[j / 4]?=some n:=⟨_,getElem?_eq_getElem hk⟩;obtain⟨a,b,c,d⟩:=hc _ n hn;obtain⟨a',b',c',d'⟩:=nodes_at ts _ n hn;have e1:(⟨g,o,none⟩:Addr).add j=⟨g,o+j,none⟩:=by unfold Addr.add;split<;>simp_all
 rw[e1];rcases (by omega:j % 4=0\/j % 4=1\/j % 4=2\/j % 4=3)with h0|h0|h0|h0
 ·rw[show o+j=o+j / 4*4 by omega];rw[show j=j / 4*4 by omega]at hu;exact a.trans (a'.symm.trans hu)
 ·rw[show o+j=o+j / 4*4+1 by omega];rw[show j=j / 4*4+1 by omega]at hu;exact b.trans (b'.symm.trans hu)
 ·rw[show o+j=o+j / 4*4+2 by omega];rw[show j=j / 4*4+2 by omega]at hu;exact c.trans (c'.symm.trans hu)
 ·rw[show o+j=o+j / 4*4+3 by omega];rw[show j=j / 4*4+3 by omega]at hu;exact d.trans (d'.symm.trans hu)
theorem layU_cells{W:World}{au:Option Addr}{es:List Edit}{vs:List Ev}(h:LayU W au es vs)(hl:vs.length=es.length):∀ ad,au=some ad->∀(j:Nat) (u:Value),(editsC es vs)[j]?=some u->W.cell? (ad.add j)=some u:=fun ad ha j u hu=>by
 have bC:=edits_len es vs hl;have hj:=(List.getElem?_eq_some_iff.1 hu).1;obtain⟨g,o,rfl,_,hc⟩:=h (by omega);injection ha with ha;subst ha;have hk:j / 3<es.length:=by omega
 obtain⟨e,he⟩:∃ e,es[j / 3]?=some e:=⟨_,getElem?_eq_getElem hk⟩;obtain⟨v,hv⟩:∃ v,vs[j / 3]?=some v:=⟨_,getElem?_eq_getElem (by omega)⟩;obtain⟨a,b,c⟩:=hc _ e v he hv;obtain⟨a',b',c'⟩:=edits_cells es vs _ e v he hv;have e1:(⟨g,o,none⟩:Addr).add j=⟨g,o+j,none⟩:=by unfold Addr.add;split<;>simp_all
 rw[e1];rcases (by omega:j % 3=0\/j % 3=1\/j % 3=2)with h0|h0|h0
 ·rw[show o+j=o+j / 3*3 by omega];rw[show j=j / 3*3 by omega]at hu;exact a.trans (a'.symm.trans hu)
 ·rw[show o+j=o+j / 3*3+1 by omega];rw[show j=j / 3*3+1 by omega]at hu;exact b.trans (b'.symm.trans hu)
 ·rw[show o+j=o+j / 3*3+2 by omega];rw[show j=j / 3*3+2 by omega]at hu;exact c.trans (c'.symm.trans hu)
theorem boot_next{w w0 W2:World}{P n k:Nat}{D:Dk}{x:Parts}{v1:Value}{es:List Edit}{vs evs:List Ev}{fs:List Fate}{g2 c2:Nat}{e:Edit}{a':Option Addr}{c':Nat}(hPw:P<w.heap.size)(hw0:w0.heap.size<=P)
  (hk:evs.length=k) (hkn:k<n) (hes:es.length=n) (hvs:vs.length=n) (he:es[k]?=some e) (ho:Out (fun k=>k=P) w W2) (hb:Below w0.heap.size w0 W2)
  (hr:W2.heap[P]?=some (.cells #[x.vn,x.vs,x.vc,.bool true,.int .i64 (D.inos.length:Nat),.int .i64 (D.clock:Nat),v1,.slice (some ⟨g2,0,none⟩) n c2,.slice none 0 0] 122 (0,0)))
  (hf:W2.ownsRow w.heap.size 116 4 v1 fs.length (fatesC fs)) (hu:W2.ownsRow w.heap.size 86 3 (.slice (some ⟨g2,0,none⟩) n c2) n (editsC es (evs++vs.drop k)))
  (hv:∀(j:Nat) (e:Edit) (v:Ev),es[j]?=some e->evs[j]?=some v->W2.ownsRow w.heap.size 45 4 (.slice v.a e.value.length v.c) e.value.length (nodesC e.value))
  (hn:W2.ownsRow w.heap.size 45 4 (.slice a' e.value.length c') e.value.length (nodesC e.value)) :
  BootInv w w0 P n D x v1 (.slice (some ⟨g2,0,none⟩) n c2) es vs fs (.int .i64 ((k+1:Nat):Int)) (W2.setCell ⟨g2,k*3+2,none⟩ (.slice a' e.value.length c')):=by
 have hg:=hu.lt g2 rfl;have tg:=own_type hu g2 rfl
 have ac:∀(t:TypeId) {m size:Nat} {u:Value} {xs:List Value},W2.ownsRow w.heap.size t size u m xs->t≠86->(W2.setCell ⟨g2,k*3+2,none⟩ (.slice a' e.value.length c')).ownsRow w.heap.size t size u m xs:=fun t {m size u xs} h1 h2 =>
  own_same h1 fun g aE=>set_other W2 g2 (k*3+2) g _ (fun e=>(own_type h1 g aE).ne tg h2 e)
 have aW:=own_store hu (k*3+2) (by omega) (.slice a' e.value.length c');have bq:(evs++vs.drop k).length=n:=by rw[length_append,List.length_drop];omega
 rw[edits_set es (evs++vs.drop k) k e ⟨a',c'⟩ he (by omega),mix_set ⟨a',c'⟩ hk (by omega)]at aW;refine⟨k+1,evs++[⟨a',c'⟩],rfl,by omega,by simp[hk],ho.setCell (p:=⟨g2,k*3+2,none⟩) (fun hh=>?_) _,?_,(set_other W2 g2 _ P _ (by omega)).trans hr,ac _ hf (by decide),aW,fun j e2 v h1 h2=>?_⟩
 ·have:g2<w.heap.size:=hh;omega
 ·have u:=(Out.of_below hb).setCell (p:=⟨g2,k*3+2,none⟩) (fun _=>(by show w0.heap.size<=g2;omega)) (.slice a' e.value.length c');exact u.below (fun j hj _ h=>by omega) (Nat.le_refl _)
 ·by_cases hj:j<k
  ·rw[List.getElem?_append_left (by omega)]at h2;exact ac _ (hv j e2 v h1 h2) (by decide)
  ·rw[List.getElem?_append_right (by omega)]at h2
   have bc:j=k:=by
    have:=(List.getElem?_eq_some_iff.1 h2).1;simp at this;omega
   subst bc;rw[he]at h1;injection h1 with h1;subst h1;rw[hk,Nat.sub_self]at h2;simp at h2;subst h2;exact ac _ hn (by decide)
theorem dboot_edits(S:Nat->Prop)(w w0:World)(P:Nat)(D:Dk)(fs:List Fate)(af:Option Addr)(cf:Nat)(es:List Edit)(vs:List Ev)(au:Option Addr)(cu:Nat)(h:Disk S w P D)(hf:∀ ad,af=some ad->∀(j:Nat) (u:Value),(fatesC fs)[j]?=some u->w.cell? (ad.add j)=some u)
  (hff:∀ ad,af=some ad->0<fs.length->ad.block≠P/\ad.block<w.heap.size) (hno:af=none->fs.length=0/\cf=0) (hl:fs.length<=1048576) (hb:Below w0.heap.size w0 w) (hP:w0.heap.size<=P) (hu:EdArg w0 au cu es vs) (hel:es.length<=1048576) :
  Calls Tryz.prog 17 #[.pointer (some ⟨P,0,none⟩),.slice af fs.length cf,.slice au es.length cu] w fun r w'=>r=.returned (.tuple #[])/\Does S P w.heap.size w (bootD D fs es) w':=by
 obtain⟨adr,x,h⟩:=h;have hr:=h.row;unfold diskC at hr;have aS:=(Array.getElem?_eq_some_iff.1 hr).1
 have av:∀ l:List Fate,(fatesC l).length=l.length*4:=fun l=>by
  induction l with
  | nil=>rfl
  | cons a l ih =>
   show(fateC a++fatesC l).length=_;rw[length_append,ih,length_cons];show 4+_=_;omega
 have az:∀ l:List Fate,∀ u∈fatesC l,u.oneCell'=true:=fun l u hu=>by
  obtain⟨f,_,hu⟩:=List.mem_flatMap.1 hu;unfold fateC at hu;simp at hu;rcases hu with rfl|rfl|rfl|rfl<;>rfl
 have R1:Hid (((w.setCell ⟨P,3,none⟩ (.bool true)).setCell ⟨P,8,none⟩ (.slice none 0 0)).heap[P]?=some (.cells #[x.vn,x.vs,x.vc,.bool true,.int .i64 (D.inos.length:Nat),.int .i64 (D.clock:Nat),x.vf,x.ve,.slice none 0 0] 122 (0,0))):=hid (row_set (j:=8) (row_set (j:=3) hr _) _);have U1:Hid (Out (fun k=>k=P) w ((w.setCell ⟨P,3,none⟩ (.bool true)).setCell ⟨P,8,none⟩ (.slice none 0 0))):=hid (((Out.refl (fun k=>k=P) w).setCell (p:=⟨P,3,none⟩) (fun _=>rfl) _).setCell (p:=⟨P,8,none⟩) (fun _=>rfl) _);have Z1:Hid (((w.setCell ⟨P,3,none⟩ (.bool true)).setCell ⟨P,8,none⟩ (.slice none 0 0)).heap.size=w.heap.size):=hid (by simp[set_size])
 have CF:Hid (Calls Tryz.prog 69 #[.slice af fs.length cf] ((w.setCell ⟨P,3,none⟩ (.bool true)).setCell ⟨P,8,none⟩ (.slice none 0 0)) (ClPost 116 4 fs.length (fatesC fs) ((w.setCell ⟨P,3,none⟩ (.bool true)).setCell ⟨P,8,none⟩ (.slice none 0 0)))):=hid (clF_any af fs.length cf (fatesC fs) _ (fun ad ha j u hu=>by
  have h1:=hf ad ha j u hu;obtain⟨h2,h3⟩:=hff ad ha (by have:=(List.getElem?_eq_some_iff.1 hu).1;rw[av]at this;omega);have aw:(ad.add j).block=ad.block:=by unfold Addr.add;split<;>rfl
  exact(U1.out.cell (p:=ad.add j) (aw ▸ h3) (fun e=>h2 (aw ▸ e))).trans h1) (av fs) (az fs) hno (by omega))
 have HU:=hid hu;have aQ:Hid (Below w0.heap.size w0 ((w.setCell ⟨P,3,none⟩ (.bool true)).setCell ⟨P,8,none⟩ (.slice none 0 0))):=hid ((hb.setCell (p:=⟨P,3,none⟩) hP _).setCell (p:=⟨P,8,none⟩) hP _)
 have CU:Hid (∀ W,Below w0.heap.size w0 W->Calls Tryz.prog 70 #[.slice au es.length cu] W (ClPost 86 3 es.length (editsC es vs) W)):=hid (fun W hW=>clU_any au es.length cu (editsC es vs) W (fun ad ha j u hu2=>by
  have h1:=layU_cells hu.lay hu.lens ad ha j u hu2;have aw:(ad.add j).block=ad.block:=by unfold Addr.add;split<;>rfl
  have bs:0<es.length:=by have:=edits_len es vs hu.lens;have:=(List.getElem?_eq_some_iff.1 hu2).1;omega
  obtain⟨g,o,e1,hg,_⟩:=hu.lay bs;rw[ha]at e1;injection e1 with e1;subst e1
  exact(hW.cell (p:=(⟨g,o,none⟩:Addr).add j) (by rw[aw];exact hg)).trans h1) (edits_len es vs hu.lens) (edits_one es vs) (fun e=>by
   refine⟨?_,hu.no e⟩;rcases Nat.eq_zero_or_pos es.length with h0|h0
   ·exact h0
   ·obtain⟨g,o,e1,_⟩:=hu.lay h0;rw[e]at e1
    cases e1) (by omega))
 obtain⟨n,hn⟩:∃ n,fs.length=n:=⟨_,rfl⟩;obtain⟨m,hm⟩:∃ m,es.length=m:=⟨_,rfl⟩;have HN:=hid hn;have HM:=hid hm;have b0:m<=cu:=by have:=hu.cap;omega
 rw[hn]at CF ⊢;rw[hm]at CU ⊢ hel;have HX:=hid h;have bh:Hid (P<w.heap.size):=hid aS;have aI:Hid (w0.heap.size<=P):=hid hP;obtain⟨-,-,-,c3,-,-,-,-,c8,bk⟩:=row9 hr;clear h hr hf hff hno av az hn hm hu hb hP;go_enter Tryz.func17,Tryz.ntmps17;repeat (first|go_skip|go_guarded|go_step|go_upon)
 refine CF.out.mono ?_;rintro r w2 ⟨v1,rfl,aN,aL⟩;simp only[];obtain⟨a1,k1,bi,_⟩:=owns_view aN;subst bi;have B1:=hid aL;have bm:=hid aN;have aC:Hid (Below w0.heap.size w0 w2):=hid (Below.trans aQ.out (aL.mono aQ.out.size));clear aN aL;repeat (first|go_skip|go_guarded|go_step|go_upon)
 refine(CU.out w2 aC.out).mono ?_;rintro r w3 ⟨v2,rfl,aO,aF⟩;simp only[];obtain⟨a2,k2,bl,_⟩:=owns_view aO;subst bl;have B2:=hid aF;have bw:=hid aO;have aV:P<((w.setCell ⟨P,3,none⟩ (.bool true)).setCell ⟨P,8,none⟩ (.slice none 0 0)).heap.size:=by rw[Z1.out];exact aS
 have bu:P<w2.heap.size:=Nat.lt_of_lt_of_le aV B1.out.size;have R3:=hid ((aF.block P bu).trans ((B1.out.block P aV).trans R1.out));obtain⟨-,-,-,-,-,-,d6,d7,-,df⟩:=row9 R3.out;clear aO aF;repeat (first|go_skip|go_guarded|go_step|go_upon)
 have U3:Hid (Out (fun k=>k=P) w ((w3.setCell ⟨P,6,none⟩ (.slice a1 n k1)).setCell ⟨P,7,none⟩ (.slice a2 m k2))):=hid (((((U1.out.thenBelow B1.out).thenBelow B2.out)).setCell (p:=⟨P,6,none⟩) (fun _=>rfl) _).setCell (p:=⟨P,7,none⟩) (fun _=>rfl) _);have aR:Hid (Below w0.heap.size w0 ((w3.setCell ⟨P,6,none⟩ (.slice a1 n k1)).setCell ⟨P,7,none⟩ (.slice a2 m k2))):=hid (((Below.trans aC.out (B2.out.mono aC.out.size)).setCell (p:=⟨P,6,none⟩) aI.out _).setCell (p:=⟨P,7,none⟩) aI.out _);have R4:=hid (row_set (j:=7) (row_set (j:=6) R3.out (.slice a1 n k1)) (.slice a2 m k2));have b8:=B1.out.size;have bB:=B2.out.size;have bd:=Z1.out
 have HA:Hid (((w3.setCell ⟨P,6,none⟩ (.slice a1 n k1)).setCell ⟨P,7,none⟩ (.slice a2 m k2)).ownsRow w.heap.size 116 4 (.slice a1 n k1) n (fatesC fs)):=hid (by
  have h1:=owns_below bm.out B2.out;rw[bd]at h1;refine own_same h1 fun g hg=>?_;have a6:g≠P:=fun e=>by have:=(h1.lt g hg).1;omega
  exact(set_other _ P 7 g _ a6).trans (set_other _ P 6 g _ a6))
 have aU:Hid (((w3.setCell ⟨P,6,none⟩ (.slice a1 n k1)).setCell ⟨P,7,none⟩ (.slice a2 m k2)).ownsRow w.heap.size 86 3 (.slice a2 m k2) m (editsC es vs)):=hid (by
  have h1:=owns_base bw.out w.heap.size (by omega);refine own_same h1 fun g hg=>?_;have a6:g≠P:=fun e=>by have:=(h1.lt g hg).1;omega
  exact(set_other _ P 7 g _ a6).trans (set_other _ P 6 g _ a6))
 obtain⟨w4,aH⟩:∃ W,(w3.setCell ⟨P,6,none⟩ (.slice a1 n k1)).setCell ⟨P,7,none⟩ (.slice a2 m k2)=W:=⟨_,rfl⟩;rw[aH]at U3 R4 HA aU aR;try rw[aH]
 clear aH d6 d7 df c3 c8 bk
 go_loopw [28] (fun s28 wr=>BootInv w w0 P m D x (.slice a1 n k1) (.slice a2 m k2) es vs fs s28 wr) (fun s28 _=>m-(RowKit.intOf s28).toNat)
 case atStart=>exact⟨0,[],rfl,Nat.zero_le _,rfl,U3.out,aR.out,R4.out,by rw[HN.out];exact HA.out,aU.out,fun j e v _ hv=>by simp at hv⟩
 case round =>
  obtain⟨k,evs,rfl,hk,am,aj,ah,aq,aD,ax,aJ⟩:=hrel;have a8:=hid aj;have ai:=hid ah;have ar:=hid aq;have ba:=hid aD;have bn:=hid ax;have be:=hid aJ;have bv:=hid am;by_cases hlt:k<m
  ·have bp:(k:Int)<m:=by omega
   obtain⟨g,o,rfl,hg,hc⟩:=HU.out.lay (by rw[HM.out];omega);obtain⟨e,he⟩:∃ e,es[k]?=some e:=⟨es[k]'(by rw[HM.out];exact hlt),getElem?_eq_getElem _⟩;obtain⟨v,hv⟩:∃ v,vs[k]?=some v:=⟨vs[k]'(by rw[HU.out.lens,HM.out];exact hlt),getElem?_eq_getElem _⟩;obtain⟨e0,e1,e2⟩:=hc k e v he hv;have sC:∀ j,wr.cell? ⟨g,j,none⟩=w0.cell? ⟨g,j,none⟩:=fun j=>ah.cell (p:=⟨g,j,none⟩) hg;rw[<- sC]at e0 e1 e2;have bA:g<wr.heap.size:=Nat.lt_of_lt_of_le hg ah.size;obtain⟨aa,aM⟩:=HU.out.vals k e v he hv;obtain⟨va,vc⟩:=v;obtain⟨X,hX,_⟩:=txt_of e.path;obtain⟨lv,aB⟩:∃ z,e.value.length=z:=⟨_,rfl⟩;obtain⟨ea,aX⟩:∃ z,e.at_=z:=⟨_,rfl⟩;simp only at e2 aa;rw[hX]at e1;rw[aB]at e2;rw[aX]at e0
   obtain⟨g2,bg,aE,_⟩:∃ g2,a2=some ⟨g2,0,none⟩/\g2<wr.heap.size/\True:=by
    obtain⟨ao,c,e1,hx⟩:=owns_view ax;injection e1 with e1 _ _;obtain⟨g2,e3,h4,_⟩:=hx (by omega);exact⟨g2,by rw[e1,e3],h4,trivial⟩
   subst bg
   have CN:Hid (∀ W,Below w0.heap.size w0 W->Calls Tryz.prog 71 #[.slice va lv vc] W (ClPost 45 4 lv (nodesC e.value) W)):=hid (fun W hW=>by
    have aG:LayN W va e.value:=fun h0=>by
     obtain⟨g,o,rfl,hg,hc⟩:=aa.lay h0;refine⟨g,o,rfl,Nat.lt_of_lt_of_le hg hW.size,fun k n hk=>?_⟩;obtain⟨a,b,c,d⟩:=hc k n hk;have s:∀ j,W.cell? ⟨g,j,none⟩=w0.cell? ⟨g,j,none⟩:=fun j=>hW.cell (p:=⟨g,j,none⟩) hg;exact⟨(s _).trans a,(s _).trans b,(s _).trans c,(s _).trans d⟩
    rw[<- aB]
    exact clN_any va e.value.length vc (nodesC e.value) W (lay_cells aG) (nodes_len _) (nds_one _) (fun ha=>by
     have h1:=aa.no ha;have h2:=aa.cap
     omega) (by omega))
   have RV:=heap_alloc_new wr (.cells #[.int .i64 ea,.string X,.slice va lv vc] 86);have bW:Below wr.heap.size wr (wr.alloc (.cells #[.int .i64 ea,.string X,.slice va lv vc] 86)):=(Below.refl _ _).alloc (Nat.le_refl _) _;have br:=hid he;have aY:=hid aB
   obtain⟨ak,a7⟩:∃ ak,wr.heap[g2]?=some (.cells ak 86 (0,0))/\k*3+2<ak.size:=by
    obtain⟨h1,h2|⟨g',cap,ak,e1,h3,h4,h5,h6,h7,h8⟩⟩:=ax
    ·cases h2.1
    ·injection e1 with e1 _ e2;injection e1 with e1;injection e1 with e1 _ _;subst e1;exact⟨ak,h4,by omega⟩
   have ap:=hid a7;clear hc sC hX he hv aB aX aa aM aj ah aq aD ax aJ am a7;repeat (first|go_skip|go_guarded|go_step|go_upon)
   obtain⟨W,hW⟩:∃ W,wr.alloc (.cells #[.int .i64 ea,.string X,.slice va lv vc] 86)=W:=⟨_,rfl⟩;rw[hW]at RV bW ⊢;obtain⟨t0,t1,t2,tf⟩:=row3 RV;have aP:P<wr.heap.size:=(Array.getElem?_eq_some_iff.1 ar.out).1;have al:=(bW.block _ aP).trans ar.out;obtain⟨-,-,-,-,-,-,-,s7,-,sf⟩:=row9 al;have bj:wr.heap.size<W.heap.size:=(Array.getElem?_eq_some_iff.1 RV).1;have BW:Hid (Below w0.heap.size w0 W):=hid (Below.trans ai.out (bW.mono ai.out.size));have bb:=hid (CN.out W.drew ⟨BW.out.os,BW.out.tape,BW.out.output,BW.out.size,BW.out.block⟩);refine wp_region_noPanic ?_;with_reducible refine QT.region_pick (S:=fun w'=>w'.cell? ⟨P,7,none⟩=some (.slice (some ⟨g2,0,none⟩) m k2)/\w'.cell? ⟨wr.heap.size,2,none⟩=some (.slice va lv vc)) [0,1,2,3,4,5,6] [7] 8 (by kernel_rfl) (by kernel_rfl) ?_ ?_ ?_
   ·exact fun _ _ _ _ _ h=>h
   ·exact⟨s7,t2⟩
   intro _;simp only[QT.pick,List.filterMap_cons,List.filterMap_nil,List.getElem?_cons_succ,List.getElem?_cons_zero,List.drop_succ_cons,List.drop_zero];iterate 7 (refine QT.wpTake_cons _ (by rfl) (by intro w' bo;obtain⟨y0,y1⟩:=bo;go_simp;first|done|rfl) ?_;try simp only[Act.put,List.setIfInBounds_toArray,List.set_cons_zero,List.set_cons_succ])
   refine QT.wpTake_nil ?_;intro K' hK;rw[if_pos (by rfl)];go_simp;refine bb.out.mono ?_;rintro r W2 ⟨v9,rfl,aK,ay⟩;simp only[];obtain⟨a9,c9,bt,_⟩:=owns_view aK;subst bt;have b9:Below W.heap.size W W2:=⟨ay.os,ay.tape,ay.output,ay.size,ay.block⟩;have aT:=(b9.block _ (Nat.lt_of_lt_of_le aP bW.size)).trans al;obtain⟨-,-,-,-,-,-,-,x7,-,-⟩:=row9 aT;have aZ:=(b9.block _ bj).trans RV;obtain⟨-,-,u2,-⟩:=row3 aZ;refine hK.out _ _ ⟨x7,u2⟩ ?_;clear hK K';refine QT.wpDo_nil ?_;try simp only[Act.put,List.setIfInBounds_toArray,List.set_cons_zero,List.set_cons_succ]
   have ab:Below wr.heap.size wr W2:=Below.trans bW (b9.mono bW.size);have ag:=(ab.block _ aE).trans ap.out.1;obtain⟨uz,bz⟩:∃ z,W2.cell? ⟨g2,k*3+2,none⟩=some z:=⟨ak[k*3+2]'ap.out.2,by rw[cell_of_row W2 g2 _ _ _ _ ag];exact Array.getElem?_eq_getElem ap.out.2⟩;have bx:W2.frozen? ⟨g2,k*3+2,none⟩=false:=frozen_of_row W2 g2 _ _ _ ag
   have aA:Hid (BootInv w w0 P m D x (.slice a1 n k1) (.slice (some ⟨g2,0,none⟩) m k2) es vs fs (.int .i64 ((k+1:Nat):Int)) (W2.setCell ⟨g2,k*3+2,none⟩ (.slice a9 lv c9))):=hid (by
    have b6:=a8.out.size
    have:=boot_next (x:=x) (fs:=fs) (evs:=evs) (a':=a9) (c':=c9) bh.out aI.out bv.out hlt HM.out (by rw[HU.out.lens,HM.out]) br.out (a8.out.thenBelow ab) (Below.trans ai.out (ab.mono ai.out.size)) ((ab.block _ aP).trans ar.out) (owns_below ba.out ab) (owns_below bn.out ab) (fun j e v h1 h2=>owns_below (be.out j e v h1 h2) ab) (by
     rw[aY.out]
     exact owns_base aK _ (by have:=bW.size;show w.heap.size<=W.heap.size;omega))
    rw[aY.out]at this
    exact this)
   clear aK ay b9 aT aZ RV bW hW ab ag;repeat (first|go_skip|go_guarded|go_step|go_upon)
   refine NoPanic.normal ?_;repeat (first|go_skip|go_guarded|go_step|go_upon)
   refine⟨?_,by simp[RowKit.intOf];omega⟩;have h9:=aA.out;rw[show((k+1:Nat):Int)=(k:Int)+1 by omega]at h9;exact h9
  ·have bp:¬(k:Int)<m:=by omega
   obtain rfl:k=m:=by omega
   clear hlt;repeat (first|go_skip|go_guarded|go_step|go_upon)
   go_end0
   have bf:vs.drop k=[]:=List.drop_eq_nil_of_le (by rw[HU.out.lens,HM.out];exact Nat.le_refl _);rw[bf,List.append_nil]at ax;have hD:=diskX_boot (fs:=fs) (es:=es) (evs:=evs) (v1:=.slice a1 n k1) (v2:=.slice a2 k k2) HX.out aj aq aD (by rw[HM.out];exact ax) (by rw[am,HM.out]) aJ;exact⟨rfl,aj.mono (fun k _ hk=>.inr hk),_,fun k hk=>hk.imp id (·.1),adr,_,hD⟩
end DG
end
section
open Go.RowKit Go.Lib Go.BigFrame
namespace DG
open OM TP TM DP DM TG TR FP
structure Cal where
 what:Int
 path:List UInt8
 dest:List UInt8
 data:List UInt8
 mode:Int
structure Ans where
 err:Int
 node:Nd
 stamp:Stamp
 texts:List (List UInt8)
def errA(e:Int):Ans:=⟨e,nodeZ,stampZ,[]⟩
def askD(D:Dk)(c:Cal):Dk×Ans :=
 if c.what=0 then((writeD D c.path c.data c.mode).1,errA (writeD D c.path c.data c.mode).2)
 else if c.what=1 then((mkdirD D c.path).1,errA (mkdirD D c.path).2)
 else if c.what=2 then((linkD D c.path c.dest).1,errA (linkD D c.path c.dest).2)
 else if c.what=3 then((removeD D c.path).1,errA (removeD D c.path).2)
 else if c.what=4 then((moveD D c.path c.dest).1,errA (moveD D c.path c.dest).2)
 else if c.what=5 then((replaceD D c.path c.dest).1,errA (replaceD D c.path c.dest).2)
 else if c.what=6 then((syncD D c.path).1,errA (syncD D c.path).2)
 else if c.what=7 then((flushD D).1,errA (flushD D).2)
 else if c.what=8 then((getD D c.path).1,⟨(getD D c.path).2.2.2,(getD D c.path).2.1,(getD D c.path).2.2.1,[]⟩)
 else if c.what=9 then((namesR D c.path).1,⟨(namesR D c.path).2,nodeZ,stampZ,lastsR (namesR D c.path) c.path⟩)
 else if c.what=10 then(bootD D [] [],errA 0)
 else(D,errA 0)
def calV(c:Cal):Value:=.agg #[.int .i64 c.what,txt c.path,txt c.dest,txt c.data,.int .i64 c.mode]
def AskPost(w W:World)(S:Nat->Prop)(P m:Nat)(Z:Dk×Ans)(r:Ending)(W':World):Prop :=
 ∃ v,r=.returned (.tuple #[.int .i64 Z.2.err,ndVal Z.2.node,stampVal Z.2.stamp,v])/\W'.ownsRow W.heap.size 9 1 v Z.2.texts.length (Z.2.texts.map txt)/\AftN w W S P m Z.1 v W'
theorem results_ask{fn:Func}{o p q u:Tmp}{ty ty2:TypeId}(h:fn.results=#[.tmp o,.cell p ty,.cell q ty2,.tmp u])(tmps:Array Value)(P:Program)(w:World) :
  (results fn tmps).run P w=((asAddr (tmps.getD p undef)).run P w).andThen fun a w₁=>((loadVar ty a).run P w₁).andThen fun v w₂=>((asAddr (tmps.getD q undef)).run P w₂).andThen fun b w₃=>((loadVar ty2 b).run P w₃).andThen fun v2 w₄=>.ok (.tuple #[tmps.getD o undef,v,v2,tmps.getD u undef]) w₄:=by
 simp only[results,h];simp[Sem.run_bind,Result.andThen]
theorem row5c{W:World}{b:Nat}{a0 a1 a2 a3 a4:Value}{t:TypeId}(h:W.heap[b]?=some (.cells #[a0,a1,a2,a3,a4] t (0,0))) :
  W.cell? ⟨b,0,none⟩=some a0/\W.cell? ⟨b,1,none⟩=some a1/\W.cell? ⟨b,2,none⟩=some a2/\W.cell? ⟨b,3,none⟩=some a3/\W.cell? ⟨b,4,none⟩=some a4/\∀ j,W.frozen? ⟨b,j,none⟩=false :=
 ⟨by rw[cell_of_row W b 0 _ _ _ h];rfl,by rw[cell_of_row W b 1 _ _ _ h];rfl,by rw[cell_of_row W b 2 _ _ _ h];rfl,by rw[cell_of_row W b 3 _ _ _ h];rfl,by rw[cell_of_row W b 4 _ _ _ h];rfl,fun j=>frozen_of_row W b j _ _ h⟩
def ask5(W:World)(k m:Int)(X Y V:ByteArray):World :=
 ((((W.alloc (.cells #[.int .i64 k,.string X,.string Y,.string V,.int .i64 m] 43)).alloc (.cells #[.string ⟨#[]⟩,.int .i64 0,.string ⟨#[]⟩,.int .i64 0] 45)).alloc (.cells #[.int .i64 0,.int .i64 0,.int .i64 0] 47)).alloc (.cells #[.string ⟨#[]⟩,.int .i64 0,.string ⟨#[]⟩,.int .i64 0] 45)).alloc (.cells #[.int .i64 0,.int .i64 0,.int .i64 0] 47)
structure Ask5(W W5:World)(k m:Int)(X Y V:ByteArray):Prop where
 bel:Below W.heap.size W W5
 size:W.heap.size+5<=W5.heap.size
 r0:W5.heap[W.heap.size]?=some (.cells #[.int .i64 k,.string X,.string Y,.string V,.int .i64 m] 43 (0,0))
 r1:W5.heap[W.heap.size+1]?=some (.cells #[.string ⟨#[]⟩,.int .i64 0,.string ⟨#[]⟩,.int .i64 0] 45 (0,0))
 r2:W5.heap[W.heap.size+1+1]?=some (.cells #[.int .i64 0,.int .i64 0,.int .i64 0] 47 (0,0))
 r3:W5.heap[W.heap.size+1+1+1]?=some (.cells #[.string ⟨#[]⟩,.int .i64 0,.string ⟨#[]⟩,.int .i64 0] 45 (0,0))
 r4:W5.heap[W.heap.size+1+1+1+1]?=some (.cells #[.int .i64 0,.int .i64 0,.int .i64 0] 47 (0,0))
theorem ask5_is(W:World)(k m:Int)(X Y V:ByteArray):Ask5 W (ask5 W k m X Y V) k m X Y V:=by
 unfold ask5;obtain⟨w1,h1⟩:∃ w,W.alloc (.cells #[.int .i64 k,.string X,.string Y,.string V,.int .i64 m] 43)=w:=⟨_,rfl⟩;have a1:=heap_alloc_new W (.cells #[.int .i64 k,.string X,.string Y,.string V,.int .i64 m] 43);have z1:w1.heap.size=W.heap.size+1:=by rw[<- h1];simp
 have b1:Below W.heap.size W w1:=by rw[<- h1];exact(Below.refl _ _).alloc (Nat.le_refl _) _
 rw[h1]at a1 ⊢;obtain⟨w2,h2⟩:∃ w,w1.alloc (.cells #[.string ⟨#[]⟩,.int .i64 0,.string ⟨#[]⟩,.int .i64 0] 45)=w:=⟨_,rfl⟩;have a2:=heap_alloc_new w1 (.cells #[.string ⟨#[]⟩,.int .i64 0,.string ⟨#[]⟩,.int .i64 0] 45);have z2:w2.heap.size=w1.heap.size+1:=by rw[<- h2];simp
 have b2:Below w1.heap.size w1 w2:=by rw[<- h2];exact(Below.refl _ _).alloc (Nat.le_refl _) _
 rw[h2]at a2 ⊢;obtain⟨w3,h3⟩:∃ w,w2.alloc (.cells #[.int .i64 0,.int .i64 0,.int .i64 0] 47)=w:=⟨_,rfl⟩;have a3:=heap_alloc_new w2 (.cells #[.int .i64 0,.int .i64 0,.int .i64 0] 47);have z3:w3.heap.size=w2.heap.size+1:=by rw[<- h3];simp
 have b3:Below w2.heap.size w2 w3:=by rw[<- h3];exact(Below.refl _ _).alloc (Nat.le_refl _) _
 rw[h3]at a3 ⊢;obtain⟨w4,h4⟩:∃ w,w3.alloc (.cells #[.string ⟨#[]⟩,.int .i64 0,.string ⟨#[]⟩,.int .i64 0] 45)=w:=⟨_,rfl⟩;have a4:=heap_alloc_new w3 (.cells #[.string ⟨#[]⟩,.int .i64 0,.string ⟨#[]⟩,.int .i64 0] 45);have z4:w4.heap.size=w3.heap.size+1:=by rw[<- h4];simp
 have b4:Below w3.heap.size w3 w4:=by rw[<- h4];exact(Below.refl _ _).alloc (Nat.le_refl _) _
 rw[h4]at a4 ⊢;obtain⟨w5,h5⟩:∃ w,w4.alloc (.cells #[.int .i64 0,.int .i64 0,.int .i64 0] 47)=w:=⟨_,rfl⟩;have a5:=heap_alloc_new w4 (.cells #[.int .i64 0,.int .i64 0,.int .i64 0] 47);have z5:w5.heap.size=w4.heap.size+1:=by rw[<- h5];simp
 have b5:Below w4.heap.size w4 w5:=by rw[<- h5];exact(Below.refl _ _).alloc (Nat.le_refl _) _
 rw[h5]at a5 ⊢;have c4:=(b5.block w3.heap.size (by omega)).trans a4;have c3:=(b5.block w2.heap.size (by omega)).trans ((b4.block w2.heap.size (by omega)).trans a3);have c2:=(b5.block w1.heap.size (by omega)).trans ((b4.block w1.heap.size (by omega)).trans ((b3.block w1.heap.size (by omega)).trans a2));have c1:=(b5.block W.heap.size (by omega)).trans ((b4.block W.heap.size (by omega)).trans ((b3.block W.heap.size (by omega)).trans ((b2.block W.heap.size (by omega)).trans a1)));refine⟨Below.trans b1 (Below.trans (b2.mono (by omega)) (Below.trans (b3.mono (by omega)) (Below.trans (b4.mono (by omega)) (b5.mono (by omega))))),by omega,c1,?_,?_,?_,?_⟩
 ·rw[show W.heap.size+1=w1.heap.size by omega];exact c2
 ·rw[show W.heap.size+1+1=w2.heap.size by omega];exact c3
 ·rw[show W.heap.size+1+1+1=w3.heap.size by omega];exact c4
 ·rw[show W.heap.size+1+1+1+1=w4.heap.size by omega];exact a5
theorem DS.mono{w W:World}{S:Nat->Prop}{P m n:Nat}{D:Dk}(h:DS w W S P m D)(hm:m<=n):DS w W S P n D:=⟨h.disk,h.lo,h.pl,h.bel,h.num.mono hm⟩
theorem out_ask7(w:World)(n:Nat)(v0 v1 v2 v3 v4 v5 v6:Value):Out (fun k=>n+1<=k/\k<=n+4) w (((((((w.setCell ⟨n+1,0,none⟩ v0).setCell ⟨n+1,1,none⟩ v1).setCell ⟨n+1,2,none⟩ v2).setCell ⟨n+1,3,none⟩ v3).setCell ⟨n+1+1,0,none⟩ v4).setCell ⟨n+1+1,1,none⟩ v5).setCell ⟨n+1+1,2,none⟩ v6).drew:=((((((((Out.refl _ w).setCell (p:=⟨n+1,0,none⟩) (fun _=>⟨by show n+1<=n+1;omega,by show n+1<=n+4;omega⟩) _).setCell (p:=⟨n+1,1,none⟩) (fun _=>⟨by show n+1<=n+1;omega,by show n+1<=n+4;omega⟩) _).setCell (p:=⟨n+1,2,none⟩) (fun _=>⟨by show n+1<=n+1;omega,by show n+1<=n+4;omega⟩) _).setCell (p:=⟨n+1,3,none⟩) (fun _=>⟨by show n+1<=n+1;omega,by show n+1<=n+4;omega⟩) _).setCell (p:=⟨n+1+1,0,none⟩) (fun _=>⟨by show n+1<=n+1+1;omega,by show n+1+1<=n+4;omega⟩) _).setCell (p:=⟨n+1+1,1,none⟩) (fun _=>⟨by show n+1<=n+1+1;omega,by show n+1+1<=n+4;omega⟩) _).setCell (p:=⟨n+1+1,2,none⟩) (fun _=>⟨by show n+1<=n+1+1;omega,by show n+1+1<=n+4;omega⟩) _).drew
theorem out_ask14(w:World)(n:Nat)(v0 v1 v2 v3 v4 v5 v6 v7 v8 v9 v10 v11 v12 v13:Value):Out (fun k=>n+1<=k/\k<=n+4) w ((((((((((((((w.setCell ⟨n+1+1+1,0,none⟩ v0).setCell ⟨n+1+1+1,1,none⟩ v1).setCell ⟨n+1+1+1,2,none⟩ v2).setCell ⟨n+1+1+1,3,none⟩ v3).setCell ⟨n+1+1+1+1,0,none⟩ v4).setCell ⟨n+1+1+1+1,1,none⟩ v5).setCell ⟨n+1+1+1+1,2,none⟩ v6).setCell ⟨n+1,0,none⟩ v7).setCell ⟨n+1,1,none⟩ v8).setCell ⟨n+1,2,none⟩ v9).setCell ⟨n+1,3,none⟩ v10).setCell ⟨n+1+1,0,none⟩ v11).setCell ⟨n+1+1,1,none⟩ v12).setCell ⟨n+1+1,2,none⟩ v13).drew:=(((((((((((((((Out.refl _ w).setCell (p:=⟨n+1+1+1,0,none⟩) (fun _=>⟨by show n+1<=n+1+1+1;omega,by show n+1+1+1<=n+4;omega⟩) _).setCell (p:=⟨n+1+1+1,1,none⟩) (fun _=>⟨by show n+1<=n+1+1+1;omega,by show n+1+1+1<=n+4;omega⟩) _).setCell (p:=⟨n+1+1+1,2,none⟩) (fun _=>⟨by show n+1<=n+1+1+1;omega,by show n+1+1+1<=n+4;omega⟩) _).setCell (p:=⟨n+1+1+1,3,none⟩) (fun _=>⟨by show n+1<=n+1+1+1;omega,by show n+1+1+1<=n+4;omega⟩) _).setCell (p:=⟨n+1+1+1+1,0,none⟩) (fun _=>⟨by show n+1<=n+1+1+1+1;omega,by show n+1+1+1+1<=n+4;omega⟩) _).setCell (p:=⟨n+1+1+1+1,1,none⟩) (fun _=>⟨by show n+1<=n+1+1+1+1;omega,by show n+1+1+1+1<=n+4;omega⟩) _).setCell (p:=⟨n+1+1+1+1,2,none⟩) (fun _=>⟨by show n+1<=n+1+1+1+1;omega,by show n+1+1+1+1<=n+4;omega⟩) _).setCell (p:=⟨n+1,0,none⟩) (fun _=>⟨by show n+1<=n+1;omega,by show n+1<=n+4;omega⟩) _).setCell (p:=⟨n+1,1,none⟩) (fun _=>⟨by show n+1<=n+1;omega,by show n+1<=n+4;omega⟩) _).setCell (p:=⟨n+1,2,none⟩) (fun _=>⟨by show n+1<=n+1;omega,by show n+1<=n+4;omega⟩) _).setCell (p:=⟨n+1,3,none⟩) (fun _=>⟨by show n+1<=n+1;omega,by show n+1<=n+4;omega⟩) _).setCell (p:=⟨n+1+1,0,none⟩) (fun _=>⟨by show n+1<=n+1+1;omega,by show n+1+1<=n+4;omega⟩) _).setCell (p:=⟨n+1+1,1,none⟩) (fun _=>⟨by show n+1<=n+1+1;omega,by show n+1+1<=n+4;omega⟩) _).setCell (p:=⟨n+1+1,2,none⟩) (fun _=>⟨by show n+1<=n+1+1;omega,by show n+1+1<=n+4;omega⟩) _).drew
theorem Ask5.keep{W W5 W6:World}{k m:Int}{X Y V:ByteArray}{w:World}{S:Nat->Prop}{P n:Nat}{D:Dk}(h:Ask5 W W5 k m X Y V)(hd:DS w W S P n D)(ho:Out (fun k=>S k\/k=P) W5 W6) :
  W6.heap[W.heap.size+1]?=some (.cells #[.string ⟨#[]⟩,.int .i64 0,.string ⟨#[]⟩,.int .i64 0] 45 (0,0))/\W6.heap[W.heap.size+1+1]?=some (.cells #[.int .i64 0,.int .i64 0,.int .i64 0] 47 (0,0)) /\
  W6.heap[W.heap.size+1+1+1]?=some (.cells #[.string ⟨#[]⟩,.int .i64 0,.string ⟨#[]⟩,.int .i64 0] 45 (0,0))/\W6.heap[W.heap.size+1+1+1+1]?=some (.cells #[.int .i64 0,.int .i64 0,.int .i64 0] 47 (0,0)):=by
 obtain⟨h1,h2⟩:=hd.lt
 have hn:∀ j,W.heap.size<=j->¬(S j\/j=P):=fun j hj hh=>by
  rcases hh with hh|hh
  ·have:=h2 j hh;omega
  ·omega
 exact⟨ho.row h.r1 (hn _ (by omega)),ho.row h.r2 (hn _ (by omega)),ho.row h.r3 (hn _ (by omega)),ho.row h.r4 (hn _ (by omega))⟩
theorem ask_done{w W W5 W6 W7:World}{S S6:Nat->Prop}{P n n':Nat}{D D':Dk}{v:Value}(h:DS w W S P n D)(hb:Below W.heap.size W W5)(hz:W.heap.size+5<=W5.heap.size)(h6:DS w W6 S6 P n' D')(hs:∀ k,S6 k->S k\/W5.heap.size<=k)(ho:Out (fun k=>S k\/k=P) W5 W6)
  (ho7:Out (fun k=>W.heap.size+1<=k/\k<=W.heap.size+4) W6 W7) (hv:∀ g,v.ownBlock=some g->¬ S6 g/\g≠P):AftN w W S P n' D' v W7:=by
 obtain⟨h1,h2⟩:=h.lt;have b7:=h.bel.size;refine⟨S6,h6.out ho7 (fun k hk=>⟨fun hh=>?_,by omega,by omega⟩),fun k hk=>(hs k hk).imp id (fun hh=>by omega),?_,hv⟩
 ·rcases hs k hh with h3|h3
  ·have:=h2 k h3;omega
  ·omega
 ·exact(((Out.refl _ W).thenBelow hb).then ho (fun j _ hj=>hj)).then ho7 (fun j hj hk=>by omega)
end DG
end
section
open Go.RowKit Go.Lib Go.BigFrame
namespace DG
open OM TP TM DP DM TG TR FP
def Old(c:Nat)(i j:Ino):Prop:=(j.kind=i.kind/\j.mode=i.mode/\j.time=i.time/\j.data <+: i.data)\/(c:Int)<j.time
def Tm(D:Dk):Prop:=∀(k:Nat) (i:Ino),D.inos[k]?=some i->i.time<=(D.clock:Int)
structure From(c:Nat)(D E:Dk):Prop where
 clock:D.clock<=E.clock
 inos:∀(k:Nat) (i:Ino),D.inos[k]?=some i->∃ j,E.inos[k]?=some j/\Old c i j
 tm:Tm D->Tm E
end DG
end
section
open Go.RowKit Go.Lib Go.BigFrame
namespace DG
open OM TP TM DP DM TG TR FP
theorem EdArg.below{w W:World}{au:Option Addr}{cu:Nat}{es:List Edit}{vs:List Ev}(h:EdArg w au cu es vs)(hb:Below w.heap.size w W):EdArg W au cu es vs:=by
 refine⟨fun h0=>?_,h.lens,fun j e v he hv=>⟨(h.vals j e v he hv).1.below hb,(h.vals j e v he hv).2⟩,h.no,h.cap⟩;obtain⟨g,o,e1,hg,hc⟩:=h.lay h0;have s:∀ j,W.cell? ⟨g,j,none⟩=w.cell? ⟨g,j,none⟩:=fun j=>hb.cell (p:=⟨g,j,none⟩) hg;exact⟨g,o,e1,Nat.lt_of_lt_of_le hg hb.size,fun k e v he hv=>⟨(s _).trans (hc k e v he hv).a,(s _).trans (hc k e v he hv).p,(s _).trans (hc k e v he hv).s⟩⟩
theorem fates_len:∀ l:List Fate,(fatesC l).length=l.length*4
 | []=>rfl
 | a::l=>by
  show(fateC a++fatesC l).length=_;rw[length_append,fates_len l,length_cons];show 4+_=_;omega
theorem num_bootE{m:Nat}{D:Dk}(h:Num m D)(fs:List Fate){w:World}{au:Option Addr}{cu:Nat}{es:List Edit}{vs:List Ev}(hu:EdArg w au cu es vs)(hel:es.length<=1048576)(hp:∀ e∈es,e.path.length<=maxLen):Num m (bootD D fs es):=by
 refine⟨h.clock,Nat.zero_le _,h.later,h.inos,hel,hp,fun e he=>?_⟩;obtain⟨j,hj,rfl⟩:=List.mem_iff_getElem.1 he;obtain⟨v,hv⟩:∃ v,vs[j]?=some v:=⟨_,getElem?_eq_getElem (by rw[hu.lens];exact hj)⟩;have h1:=(hu.vals j _ v (getElem?_eq_getElem hj) hv).1;exact⟨h1.long,h1.max⟩
theorem DS.bootE{w W:World}{S:Nat->Prop}{P m:Nat}{D:Dk}(h:DS w W S P m D)(fs:List Fate)(af:Option Addr)(cf:Nat)(hf:∀ ad,af=some ad->(0<fs.length->ad.block<w.heap.size)/\∀(j:Nat) (u:Value),(fatesC fs)[j]?=some u->w.cell? (ad.add j)=some u)
  (hno:af=none->fs.length=0/\cf=0) (hl:fs.length<=1048576) (es:List Edit) (vs:List Ev) (au:Option Addr) (cu:Nat) (hu:EdArg w au cu es vs) (hel:es.length<=1048576) (hp:∀ e∈es,e.path.length<=maxLen) :
  Calls Tryz.prog 17 #[.pointer (some ⟨P,0,none⟩),.slice af fs.length cf,.slice au es.length cu] W fun r W'=>r=.returned (.tuple #[])/\Aft w W S P m (bootD D fs es) W':=by
 refine(dboot_edits S W w P D fs af cf es vs au cu h.disk (fun ad ha j u hu=>?_) (fun ad ha h0=>?_) hno hl h.bel h.pl hu hel).mono ?_
 ·obtain⟨h1,h2⟩:=hf ad ha;have aw:(ad.add j).block=ad.block:=by unfold Addr.add;split<;>rfl
  have h0:0<fs.length:=by have:=(List.getElem?_eq_some_iff.1 hu).1;rw[fates_len]at this;omega
  exact(h.bel.cell (p:=ad.add j) (by rw[aw];exact h1 h0)).trans (h2 j u hu)
 ·have h1:=(hf ad ha).1 h0;have:=h.pl;have:=h.bel.size;exact⟨by omega,by omega⟩
 ·rintro r W' ⟨hr,hd⟩;exact⟨hr,h.aft hd (num_bootE h.num fs hu hel hp)⟩
theorem eq_st2(a b:Stamp)(W:World):(Op.equalIn 10000 47 (.agg #[.int .i64 a.ino,.int .i64 a.size,.int .i64 a.time]) (.agg #[.int .i64 b.ino,.int .i64 b.size,.int .i64 b.time])).run Tryz.prog W=.ok (decide (a.ino=b.ino/\a.size=b.size/\a.time=b.time)) W:=by
 rw[run_equalIn_struct W 9999 47 _ _ (by kernel_rfl) (by kernel_rfl)];have names:(Tryz.prog.fieldsOf 47).toList.map (fun f=>(f.name,f.type,f.offset))=[("Ino",3,0),("Size",3,1),("Time",3,2)]:=by kernel_rfl
 obtain⟨f0,f1,f2,e⟩:∃ f0 f1 f2,(Tryz.prog.fieldsOf 47).toList=[f0,f1,f2]:=by
  have hl:=congrArg List.length names;rw[List.length_map]at hl
  match h:(Tryz.prog.fieldsOf 47).toList,hl with
  | [f0,f1,f2],_=>exact⟨f0,f1,f2,rfl⟩
 rw[e]at names;simp only[List.map_cons,List.map_nil,List.cons.injEq,Prod.mk.injEq,and_true]at names;obtain⟨⟨n0,t0,o0⟩,⟨n1,t1,o1⟩,n2,t2,o2⟩:=names;rw[e];by_cases h1:a.ino=b.ino
 ·by_cases h2:a.size=b.size
  ·by_cases h3:a.time=b.time
   ·simp[Op.eqFields,go_sem,n0,n1,n2,t0,t1,t2,o0,o1,o2,Tryz.underlying3,h1,h2,h3]
   ·simp[Op.eqFields,go_sem,n0,n1,n2,t0,t1,t2,o0,o1,o2,Tryz.underlying3,h1,h2,h3]
  ·simp[Op.eqFields,go_sem,n0,n1,n2,t0,t1,t2,o0,o1,o2,Tryz.underlying3,h1,h2]
 ·simp[Op.eqFields,go_sem,n0,n1,n2,t0,t1,t2,o0,o1,o2,Tryz.underlying3,h1]
end DG
end
end Go.Proofs.YtkmcjededpamnaaGreatDoor
