/- Texts of this seat, put one behind the other: what its statements share (part 11). -/
import Derived.Test.YtmohjalanhnhbaaGreatDoorMg10
import Derived.Test.YtmohjalanhnhbaaGreatDoorMg3
import Derived.Test.YtmohjalanhnhbaaGreatDoorMg8
import Derived.Test.YtmohjalanhnhbaaGreatDoorMg2
set_option linter.all false
set_option maxRecDepth 100000
set_option maxHeartbeats 25600000
section
namespace Go.Proofs.YtmohjalanhnhbaaGreatDoor
open Go.RowKit Go.Lib Go.BigFrame
namespace DG
open OM TP TM DP DM TG TR FP
structure EdCell (W:World) (g o:Nat) (e:Edit) (v:Ev):Prop where
 a:W.cell? ⟨g,o,none⟩=some (.int .i64 e.at_)
 p:W.cell? ⟨g,o+1,none⟩=some (txt e.path)
 s:W.cell? ⟨g,o+2,none⟩=some (.slice v.a e.value.length v.c)
def LayU (W:World) (au:Option Addr) (es:List Edit) (vs:List Ev):Prop :=
 0<es.length->∃ g o,au=some ⟨g,o,none⟩/\g<W.heap.size/\∀ (k:Nat) (e:Edit) (v:Ev),es[k]?=some e->vs[k]?=some v->EdCell W g (o+k*3) e v
structure EdArg (W:World) (au:Option Addr) (cu:Nat) (es:List Edit) (vs:List Ev):Prop where
 lay:LayU W au es vs
 lens:vs.length=es.length
 vals:∀ (j:Nat) (e:Edit) (v:Ev),es[j]?=some e->vs[j]?=some v->TW.Wide W v.a v.c e.value/\e.value.length<=1048576
 no:au=none->cu=0
 cap:es.length<=cu
theorem edits_len:∀ (es:List Edit) (vs:List Ev),vs.length=es.length->(editsC es vs).length=es.length*3
 | [],[],_=>rfl
 | e::es,v::vs,h=>by
  have ih:=edits_len es vs (by simpa using h)
  show (editV (e,v)++editsC es vs).length=_
  rw [List.length_append,ih,List.length_cons]
  show 3+_=_
  omega
theorem edits_cells:∀ (es:List Edit) (vs:List Ev) (k:Nat) (e:Edit) (v:Ev),es[k]?=some e->vs[k]?=some v ->
  (editsC es vs)[k*3]?=some (.int .i64 e.at_)/\(editsC es vs)[k*3+1]?=some (txt e.path)/\(editsC es vs)[k*3+2]?=some (.slice v.a e.value.length v.c)
 | x::es,y::vs,0,e,v,h1,h2=>by
  simp at h1 h2
  subst h1 h2
  exact⟨rfl,rfl,rfl⟩
 | x::es,y::vs,k+1,e,v,h1,h2=>by
  have ih:=edits_cells es vs k e v (by simpa using h1) (by simpa using h2)
  have s:∀ j,(editsC (x::es) (y::vs))[(k+1)*3+j]?=(editsC es vs)[k*3+j]?:=fun j=>by
   show (editV (x,y)++editsC es vs)[_]?=_
   rw [List.getElem?_append_right (by show 3<=_;omega)]
   congr 1
   show (k+1)*3+j-3=_
   omega
  exact⟨(s 0).trans ih.1,(s 1).trans ih.2.1,(s 2).trans ih.2.2⟩
theorem edits_one (es:List Edit) (vs:List Ev):∀ u∈editsC es vs,u.oneCell'=true:=fun u hu=>by
 obtain⟨e,_,hu⟩:=List.mem_flatMap.1 hu
 unfold editV at hu
 simp at hu
 rcases hu with rfl|rfl|rfl<;>rfl
theorem edits_set:∀ (es:List Edit) (vs:List Ev) (k:Nat) (e:Edit) (v:Ev),es[k]?=some e->k<vs.length->(editsC es vs).set (k*3+2) (.slice v.a e.value.length v.c)=editsC es (vs.set k v)
 | x::es,y::vs,0,e,v,h1,_=>by
  simp at h1
  subst h1
  rfl
 | x::es,y::vs,k+1,e,v,h1,h2=>by
  have ih:=edits_set es vs k e v (by simpa using h1) (by simpa using h2)
  show (editV (x,y)++editsC es vs).set ((k+1)*3+2) _=editV (x,y)++editsC es (vs.set k v)
  rw [<- ih,List.set_append_right _ _ (by show 3<=_;omega)]
  congr 2
  show (k+1)*3+2-3=_
  omega
theorem mix_set {vs evs:List Ev} {k:Nat} (ev:Ev) (h:evs.length=k) (hk:k<vs.length):(evs++vs.drop k).set k ev=(evs++[ev])++vs.drop (k+1):=by
 rw [List.set_append_right _ _ (by omega),h,Nat.sub_self,List.drop_eq_getElem_cons hk,List.append_assoc]
 rfl
theorem own_store {W:World} {B e size g n c:Nat} {xs:List Value} (h:W.ownsRow B e size (.slice (some ⟨g,0,none⟩) n c) n xs) (j:Nat) (hj:j<n*size) (u:Value):(W.setCell ⟨g,j,none⟩ u).ownsRow B e size (.slice (some ⟨g,0,none⟩) n c) n (xs.set j u):=by
 obtain⟨h1,h2|⟨g',cap,cur,e1,h3,h4,h5,h6,h7,h8⟩⟩:=h
 ·cases h2.1
 ·injection e1 with e1 _ e2
  injection e1 with e1
  injection e1 with e1 _ _
  subst e1 e2
  refine⟨by rw [List.length_set];exact h1,.inr ⟨g,c,cur.setIfInBounds j u,rfl,h3,row_set h4 u,h5,h6,by simpa using h7,?_⟩⟩
  rw [Array.toList_setIfInBounds,List.take_set,h8]
def BootInv (w w0:World) (P n:Nat) (D:Dk) (x:Parts) (v1 v2:Value) (es:List Edit) (vs:List Ev) (fs:List Fate) (s28:Value) (wr:World):Prop :=
 ∃ (k:Nat) (evs:List Ev),s28=.int .i64 k/\k<=n/\evs.length=k/\Out (fun k=>k=P) w wr/\Below w0.heap.size w0 wr /\
  wr.heap[P]?=some (.cells #[x.vn,x.vs,x.vc,.bool true,.int .i64 (D.inos.length:Nat),.int .i64 (D.clock:Nat),v1,v2,.slice none 0 0] 122 (0,0)) /\
  wr.ownsRow w.heap.size 116 4 v1 fs.length (fatesC fs)/\wr.ownsRow w.heap.size 86 3 v2 n (editsC es (evs++vs.drop k)) /\
  ∀ (j:Nat) (e:Edit) (v:Ev),es[j]?=some e->evs[j]?=some v->wr.ownsRow w.heap.size 45 4 (.slice v.a e.value.length v.c) e.value.length (nodesC e.value)
theorem lay_cells {W:World} {ao:Option Addr} {ts:List Nd} (h:LayN W ao ts):∀ ad,ao=some ad->∀ (j:Nat) (u:Value),(nodesC ts)[j]?=some u->W.cell? (ad.add j)=some u:=fun ad ha j u hu=>by
 have hl:=nodes_len ts
 have hj:=(List.getElem?_eq_some_iff.1 hu).1
 obtain⟨g,o,rfl,_,hc⟩:=h (by omega)
 injection ha with ha
 subst ha
 have hk:j / 4<ts.length:=by omega
 obtain⟨n,hn⟩:∃ n,ts[j / 4]?=some n:=⟨_,List.getElem?_eq_getElem hk⟩
 obtain⟨a,b,c,d⟩:=hc _ n hn
 obtain⟨a',b',c',d'⟩:=nodes_at ts _ n hn
 have e1:(⟨g,o,none⟩:Addr).add j=⟨g,o+j,none⟩:=by unfold Addr.add;split<;>simp_all
 rw [e1]
 rcases (by omega:j % 4=0∨j % 4=1∨j % 4=2∨j % 4=3) with h0|h0|h0|h0
 ·rw [show o+j=o+j / 4*4 by omega]
  rw [show j=j / 4*4 by omega] at hu
  exact a.trans (a'.symm.trans hu)
 ·rw [show o+j=o+j / 4*4+1 by omega]
  rw [show j=j / 4*4+1 by omega] at hu
  exact b.trans (b'.symm.trans hu)
 ·rw [show o+j=o+j / 4*4+2 by omega]
  rw [show j=j / 4*4+2 by omega] at hu
  exact c.trans (c'.symm.trans hu)
 ·rw [show o+j=o+j / 4*4+3 by omega]
  rw [show j=j / 4*4+3 by omega] at hu
  exact d.trans (d'.symm.trans hu)
theorem layU_cells {W:World} {au:Option Addr} {es:List Edit} {vs:List Ev} (h:LayU W au es vs) (hl:vs.length=es.length):∀ ad,au=some ad->∀ (j:Nat) (u:Value),(editsC es vs)[j]?=some u->W.cell? (ad.add j)=some u:=fun ad ha j u hu=>by
 have hl2:=edits_len es vs hl
 have hj:=(List.getElem?_eq_some_iff.1 hu).1
 obtain⟨g,o,rfl,_,hc⟩:=h (by omega)
 injection ha with ha
 subst ha
 have hk:j / 3<es.length:=by omega
 obtain⟨e,he⟩:∃ e,es[j / 3]?=some e:=⟨_,List.getElem?_eq_getElem hk⟩
 obtain⟨v,hv⟩:∃ v,vs[j / 3]?=some v:=⟨_,List.getElem?_eq_getElem (by omega)⟩
 obtain⟨a,b,c⟩:=hc _ e v he hv
 obtain⟨a',b',c'⟩:=edits_cells es vs _ e v he hv
 have e1:(⟨g,o,none⟩:Addr).add j=⟨g,o+j,none⟩:=by unfold Addr.add;split<;>simp_all
 rw [e1]
 rcases (by omega:j % 3=0∨j % 3=1∨j % 3=2) with h0|h0|h0
 ·rw [show o+j=o+j / 3*3 by omega]
  rw [show j=j / 3*3 by omega] at hu
  exact a.trans (a'.symm.trans hu)
 ·rw [show o+j=o+j / 3*3+1 by omega]
  rw [show j=j / 3*3+1 by omega] at hu
  exact b.trans (b'.symm.trans hu)
 ·rw [show o+j=o+j / 3*3+2 by omega]
  rw [show j=j / 3*3+2 by omega] at hu
  exact c.trans (c'.symm.trans hu)
theorem boot_next {w w0 W2:World} {P n k:Nat} {D:Dk} {x:Parts} {v1:Value} {es:List Edit} {vs evs:List Ev} {fs:List Fate} {g2 c2:Nat} {e:Edit} {a':Option Addr} {c':Nat} (hPw:P<w.heap.size) (hw0:w0.heap.size<=P)
  (hk:evs.length=k) (hkn:k<n) (hes:es.length=n) (hvs:vs.length=n) (he:es[k]?=some e) (ho:Out (fun k=>k=P) w W2) (hb:Below w0.heap.size w0 W2)
  (hr:W2.heap[P]?=some (.cells #[x.vn,x.vs,x.vc,.bool true,.int .i64 (D.inos.length:Nat),.int .i64 (D.clock:Nat),v1,.slice (some ⟨g2,0,none⟩) n c2,.slice none 0 0] 122 (0,0)))
  (hf:W2.ownsRow w.heap.size 116 4 v1 fs.length (fatesC fs)) (hu:W2.ownsRow w.heap.size 86 3 (.slice (some ⟨g2,0,none⟩) n c2) n (editsC es (evs++vs.drop k)))
  (hv:∀ (j:Nat) (e:Edit) (v:Ev),es[j]?=some e->evs[j]?=some v->W2.ownsRow w.heap.size 45 4 (.slice v.a e.value.length v.c) e.value.length (nodesC e.value))
  (hn:W2.ownsRow w.heap.size 45 4 (.slice a' e.value.length c') e.value.length (nodesC e.value)) :
  BootInv w w0 P n D x v1 (.slice (some ⟨g2,0,none⟩) n c2) es vs fs (.int .i64 ((k+1:Nat):Int)) (W2.setCell ⟨g2,k*3+2,none⟩ (.slice a' e.value.length c')):=by
 have hg:=hu.lt g2 rfl
 have tg:=own_type hu g2 rfl
 have other:∀ (t:TypeId) {m size:Nat} {u:Value} {xs:List Value},W2.ownsRow w.heap.size t size u m xs->t≠86->(W2.setCell ⟨g2,k*3+2,none⟩ (.slice a' e.value.length c')).ownsRow w.heap.size t size u m xs:=fun t {m size u xs} h1 h2 =>
  own_same h1 fun g hg2=>set_other W2 g2 (k*3+2) g _ (fun e=>(own_type h1 g hg2).ne tg h2 e)
 have hst:=own_store hu (k*3+2) (by omega) (.slice a' e.value.length c')
 have hlen:(evs++vs.drop k).length=n:=by rw [List.length_append,List.length_drop];omega
 rw [edits_set es (evs++vs.drop k) k e ⟨a',c'⟩ he (by omega),mix_set ⟨a',c'⟩ hk (by omega)] at hst
 refine⟨k+1,evs++[⟨a',c'⟩],rfl,by omega,by simp [hk],ho.setCell (p:=⟨g2,k*3+2,none⟩) (fun hh=>?_) _,?_,(set_other W2 g2 _ P _ (by omega)).trans hr,other _ hf (by decide),hst,fun j e2 v h1 h2=>?_⟩
 ·have:g2<w.heap.size:=hh
  omega
 ·have u:=(Out.of_below hb).setCell (p:=⟨g2,k*3+2,none⟩) (fun _=>(by show w0.heap.size<=g2;omega)) (.slice a' e.value.length c')
  exact u.below (fun j hj _ h=>by omega) (Nat.le_refl _)
 ·by_cases hj:j<k
  ·rw [List.getElem?_append_left (by omega)] at h2
   exact other _ (hv j e2 v h1 h2) (by decide)
  ·rw [List.getElem?_append_right (by omega)] at h2
   have hj2:j=k:=by
    have:=(List.getElem?_eq_some_iff.1 h2).1
    simp at this
    omega
   subst hj2
   rw [he] at h1
   injection h1 with h1
   subst h1
   rw [hk,Nat.sub_self] at h2
   simp at h2
   subst h2
   exact other _ hn (by decide)
theorem dboot_edits (S:Nat->Prop) (w w0:World) (P:Nat) (D:Dk) (fs:List Fate) (af:Option Addr) (cf:Nat) (es:List Edit) (vs:List Ev) (au:Option Addr) (cu:Nat) (h:Disk S w P D) (hf:∀ ad,af=some ad->∀ (j:Nat) (u:Value),(fatesC fs)[j]?=some u->w.cell? (ad.add j)=some u)
  (hff:∀ ad,af=some ad->0<fs.length->ad.block≠P/\ad.block<w.heap.size) (hno:af=none->fs.length=0/\cf=0) (hl:fs.length<=1048576) (hb:Below w0.heap.size w0 w) (hP:w0.heap.size<=P) (hu:EdArg w0 au cu es vs) (hel:es.length<=1048576) :
  Calls Tryz.prog 17 #[.pointer (some ⟨P,0,none⟩),.slice af fs.length cf,.slice au es.length cu] w fun r w'=>r=.returned (.tuple #[])/\Does S P w.heap.size w (bootD D fs es) w':=by
 obtain⟨adr,x,h⟩:=h
 have hr:=h.row
 unfold diskC at hr
 have hpl:=(Array.getElem?_eq_some_iff.1 hr).1
 have flen:∀ l:List Fate,(fatesC l).length=l.length*4:=fun l=>by
  induction l with
  | nil=>rfl
  | cons a l ih =>
   show (fateC a++fatesC l).length=_
   rw [List.length_append,ih,List.length_cons]
   show 4+_=_
   omega
 have fone:∀ l:List Fate,∀ u∈fatesC l,u.oneCell'=true:=fun l u hu=>by
  obtain⟨f,_,hu⟩:=List.mem_flatMap.1 hu
  unfold fateC at hu
  simp at hu
  rcases hu with rfl|rfl|rfl|rfl<;>rfl
 have R1:Hid (((w.setCell ⟨P,3,none⟩ (.bool true)).setCell ⟨P,8,none⟩ (.slice none 0 0)).heap[P]?=some (.cells #[x.vn,x.vs,x.vc,.bool true,.int .i64 (D.inos.length:Nat),.int .i64 (D.clock:Nat),x.vf,x.ve,.slice none 0 0] 122 (0,0))):=Lib.hid (row_set (j:=8) (row_set (j:=3) hr _) _)
 have U1:Hid (Out (fun k=>k=P) w ((w.setCell ⟨P,3,none⟩ (.bool true)).setCell ⟨P,8,none⟩ (.slice none 0 0))):=Lib.hid (((Out.refl (fun k=>k=P) w).setCell (p:=⟨P,3,none⟩) (fun _=>rfl) _).setCell (p:=⟨P,8,none⟩) (fun _=>rfl) _)
 have Z1:Hid (((w.setCell ⟨P,3,none⟩ (.bool true)).setCell ⟨P,8,none⟩ (.slice none 0 0)).heap.size=w.heap.size):=Lib.hid (by simp [set_size])
 have CF:Hid (Calls Tryz.prog 69 #[.slice af fs.length cf] ((w.setCell ⟨P,3,none⟩ (.bool true)).setCell ⟨P,8,none⟩ (.slice none 0 0)) (ClPost 116 4 fs.length (fatesC fs) ((w.setCell ⟨P,3,none⟩ (.bool true)).setCell ⟨P,8,none⟩ (.slice none 0 0)))):=Lib.hid (clF_any af fs.length cf (fatesC fs) _ (fun ad ha j u hu=>by
  have h1:=hf ad ha j u hu
  obtain⟨h2,h3⟩:=hff ad ha (by have:=(List.getElem?_eq_some_iff.1 hu).1;rw [flen] at this;omega)
  have hab:(ad.add j).block=ad.block:=by unfold Addr.add;split<;>rfl
  exact (U1.out.cell (p:=ad.add j) (hab ▸ h3) (fun e=>h2 (hab ▸ e))).trans h1) (flen fs) (fone fs) hno (by omega))
 have HU:=Lib.hid hu
 have BU1:Hid (Below w0.heap.size w0 ((w.setCell ⟨P,3,none⟩ (.bool true)).setCell ⟨P,8,none⟩ (.slice none 0 0))):=Lib.hid ((hb.setCell (p:=⟨P,3,none⟩) hP _).setCell (p:=⟨P,8,none⟩) hP _)
 have CU:Hid (∀ W,Below w0.heap.size w0 W->Calls Tryz.prog 70 #[.slice au es.length cu] W (ClPost 86 3 es.length (editsC es vs) W)):=Lib.hid (fun W hW=>clU_any au es.length cu (editsC es vs) W (fun ad ha j u hu2=>by
  have h1:=layU_cells hu.lay hu.lens ad ha j u hu2
  have hab:(ad.add j).block=ad.block:=by unfold Addr.add;split<;>rfl
  have hl0:0<es.length:=by have:=edits_len es vs hu.lens;have:=(List.getElem?_eq_some_iff.1 hu2).1;omega
  obtain⟨g,o,e1,hg,_⟩:=hu.lay hl0
  rw [ha] at e1
  injection e1 with e1
  subst e1
  exact (hW.cell (p:=(⟨g,o,none⟩:Addr).add j) (by rw [hab];exact hg)).trans h1) (edits_len es vs hu.lens) (edits_one es vs) (fun e=>by
   refine⟨?_,hu.no e⟩
   rcases Nat.eq_zero_or_pos es.length with h0|h0
   ·exact h0
   ·obtain⟨g,o,e1,_⟩:=hu.lay h0
    rw [e] at e1
    cases e1) (by omega))
 obtain⟨n,hn⟩:∃ n,fs.length=n:=⟨_,rfl⟩
 obtain⟨m,hm⟩:∃ m,es.length=m:=⟨_,rfl⟩
 have HN:=Lib.hid hn
 have HM:=Lib.hid hm
 have hcu:m<=cu:=by have:=hu.cap;omega
 rw [hn] at CF ⊢
 rw [hm] at CU ⊢ hel
 have HX:=Lib.hid h
 have HPl:Hid (P<w.heap.size):=Lib.hid hpl
 have HP0:Hid (w0.heap.size<=P):=Lib.hid hP
 obtain⟨-,-,-,c3,-,-,-,-,c8,cfz⟩:=row9 hr
 clear h hr hf hff hno flen fone hn hm hu hb hP
 go_enter Tryz.func17,Tryz.ntmps17
 repeat (first|(go_at_call 69;fail)|go_skip|go_guarded|go_step|go_upon)
 refine CF.out.mono ?_
 rintro r w2 ⟨v1,rfl,ho1,hb1⟩
 simp only []
 obtain⟨a1,k1,hv1,_⟩:=owns_view ho1
 subst hv1
 have B1:=Lib.hid hb1
 have HO1:=Lib.hid ho1
 have BU2:Hid (Below w0.heap.size w0 w2):=Lib.hid (Below.trans BU1.out (hb1.mono BU1.out.size))
 clear ho1 hb1
 repeat (first|(go_at_call 70;fail)|go_skip|go_guarded|go_step|go_upon)
 refine (CU.out w2 BU2.out).mono ?_
 rintro r w3 ⟨v2,rfl,ho2,hb2⟩
 simp only []
 obtain⟨a2,k2,hv2,_⟩:=owns_view ho2
 subst hv2
 have B2:=Lib.hid hb2
 have HO2:=Lib.hid ho2
 have hp1:P<((w.setCell ⟨P,3,none⟩ (.bool true)).setCell ⟨P,8,none⟩ (.slice none 0 0)).heap.size:=by rw [Z1.out];exact hpl
 have hp2:P<w2.heap.size:=Nat.lt_of_lt_of_le hp1 B1.out.size
 have R3:=Lib.hid ((hb2.block P hp2).trans ((B1.out.block P hp1).trans R1.out))
 obtain⟨-,-,-,-,-,-,d6,d7,-,df⟩:=row9 R3.out
 clear ho2 hb2
 repeat (first|go_skip|go_guarded|go_step|go_upon)
 have U3:Hid (Out (fun k=>k=P) w ((w3.setCell ⟨P,6,none⟩ (.slice a1 n k1)).setCell ⟨P,7,none⟩ (.slice a2 m k2))):=Lib.hid (((((U1.out.thenBelow B1.out).thenBelow B2.out)).setCell (p:=⟨P,6,none⟩) (fun _=>rfl) _).setCell (p:=⟨P,7,none⟩) (fun _=>rfl) _)
 have BU4:Hid (Below w0.heap.size w0 ((w3.setCell ⟨P,6,none⟩ (.slice a1 n k1)).setCell ⟨P,7,none⟩ (.slice a2 m k2))):=Lib.hid (((Below.trans BU2.out (B2.out.mono BU2.out.size)).setCell (p:=⟨P,6,none⟩) HP0.out _).setCell (p:=⟨P,7,none⟩) HP0.out _)
 have R4:=Lib.hid (row_set (j:=7) (row_set (j:=6) R3.out (.slice a1 n k1)) (.slice a2 m k2))
 have hz2:=B1.out.size
 have hz3:=B2.out.size
 have hzz:=Z1.out
 have HA:Hid (((w3.setCell ⟨P,6,none⟩ (.slice a1 n k1)).setCell ⟨P,7,none⟩ (.slice a2 m k2)).ownsRow w.heap.size 116 4 (.slice a1 n k1) n (fatesC fs)):=Lib.hid (by
  have h1:=owns_below HO1.out B2.out
  rw [hzz] at h1
  refine own_same h1 fun g hg=>?_
  have hgp:g≠P:=fun e=>by have:=(h1.lt g hg).1;omega
  exact (set_other _ P 7 g _ hgp).trans (set_other _ P 6 g _ hgp))
 have HBb:Hid (((w3.setCell ⟨P,6,none⟩ (.slice a1 n k1)).setCell ⟨P,7,none⟩ (.slice a2 m k2)).ownsRow w.heap.size 86 3 (.slice a2 m k2) m (editsC es vs)):=Lib.hid (by
  have h1:=owns_base HO2.out w.heap.size (by omega)
  refine own_same h1 fun g hg=>?_
  have hgp:g≠P:=fun e=>by have:=(h1.lt g hg).1;omega
  exact (set_other _ P 7 g _ hgp).trans (set_other _ P 6 g _ hgp))
 obtain⟨w4,hw4⟩:∃ W,(w3.setCell ⟨P,6,none⟩ (.slice a1 n k1)).setCell ⟨P,7,none⟩ (.slice a2 m k2)=W:=⟨_,rfl⟩
 rw [hw4] at U3 R4 HA HBb BU4
 try rw [hw4]
 clear hw4 d6 d7 df c3 c8 cfz
 go_loopw [28] (fun s28 wr=>BootInv w w0 P m D x (.slice a1 n k1) (.slice a2 m k2) es vs fs s28 wr) (fun s28 _=>m-(Go.RowKit.intOf s28).toNat)
 case atStart=>exact⟨0,[],rfl,Nat.zero_le _,rfl,U3.out,BU4.out,R4.out,by rw [HN.out];exact HA.out,HBb.out,fun j e v _ hv=>by simp at hv⟩
 case round =>
  obtain⟨k,evs,rfl,hk,hevs,hout,hbel,hrow,hfo,huo,hvo⟩:=hrel
  have HOut:=Lib.hid hout
  have HBel:=Lib.hid hbel
  have HRow:=Lib.hid hrow
  have HFo:=Lib.hid hfo
  have HUo:=Lib.hid huo
  have HVo:=Lib.hid hvo
  have HEv:=Lib.hid hevs
  by_cases hlt:k<m
  ·have hkz:(k:Int)<m:=by omega
   obtain⟨g,o,rfl,hg,hc⟩:=HU.out.lay (by rw [HM.out];omega)
   obtain⟨e,he⟩:∃ e,es[k]?=some e:=⟨es[k]'(by rw [HM.out];exact hlt),List.getElem?_eq_getElem _⟩
   obtain⟨v,hv⟩:∃ v,vs[k]?=some v:=⟨vs[k]'(by rw [HU.out.lens,HM.out];exact hlt),List.getElem?_eq_getElem _⟩
   obtain⟨e0,e1,e2⟩:=hc k e v he hv
   have sC:∀ j,wr.cell? ⟨g,j,none⟩=w0.cell? ⟨g,j,none⟩:=fun j=>hbel.cell (p:=⟨g,j,none⟩) hg
   rw [<- sC] at e0 e1 e2
   have hgr:g<wr.heap.size:=Nat.lt_of_lt_of_le hg hbel.size
   obtain⟨hwide,hbig⟩:=HU.out.vals k e v he hv
   obtain⟨va,vc⟩:=v
   obtain⟨X,hX,_⟩:=txt_of e.path
   obtain⟨lv,hlv⟩:∃ z,e.value.length=z:=⟨_,rfl⟩
   obtain⟨ea,hea⟩:∃ z,e.at_=z:=⟨_,rfl⟩
   simp only at e2 hwide
   rw [hX] at e1
   rw [hlv] at e2
   rw [hea] at e0
   obtain⟨g2,ha2,hg2,_⟩:∃ g2,a2=some ⟨g2,0,none⟩/\g2<wr.heap.size/\True:=by
    obtain⟨ao,c,e1,hx⟩:=owns_view huo
    injection e1 with e1 _ _
    obtain⟨g2,e3,h4,_⟩:=hx (by omega)
    exact⟨g2,by rw [e1,e3],h4,trivial⟩
   subst ha2
   have CN:Hid (∀ W,Below w0.heap.size w0 W->Calls Tryz.prog 71 #[.slice va lv vc] W (ClPost 45 4 lv (nodesC e.value) W)):=Lib.hid (fun W hW=>by
    have hlay:LayN W va e.value:=fun h0=>by
     obtain⟨g,o,rfl,hg,hc⟩:=hwide.lay h0
     refine⟨g,o,rfl,Nat.lt_of_lt_of_le hg hW.size,fun k n hk=>?_⟩
     obtain⟨a,b,c,d⟩:=hc k n hk
     have s:∀ j,W.cell? ⟨g,j,none⟩=w0.cell? ⟨g,j,none⟩:=fun j=>hW.cell (p:=⟨g,j,none⟩) hg
     exact⟨(s _).trans a,(s _).trans b,(s _).trans c,(s _).trans d⟩
    rw [<- hlv]
    exact clN_any va e.value.length vc (nodesC e.value) W (lay_cells hlay) (nodes_len _) (nds_one _) (fun ha=>by
     have h1:=hwide.no ha
     have h2:=hwide.cap
     omega) (by omega))
   have RV:=heap_alloc_new wr (.cells #[.int .i64 ea,.string X,.slice va lv vc] 86)
   have bW:Below wr.heap.size wr (wr.alloc (.cells #[.int .i64 ea,.string X,.slice va lv vc] 86)):=(Below.refl _ _).alloc (Nat.le_refl _) _
   have HE2:=Lib.hid he
   have HLv:=Lib.hid hlv
   obtain⟨cur,hcur⟩:∃ cur,wr.heap[g2]?=some (.cells cur 86 (0,0))/\k*3+2<cur.size:=by
    obtain⟨h1,h2|⟨g',cap,cur,e1,h3,h4,h5,h6,h7,h8⟩⟩:=huo
    ·cases h2.1
    ·injection e1 with e1 _ e2
     injection e1 with e1
     injection e1 with e1 _ _
     subst e1
     exact⟨cur,h4,by omega⟩
   have HCur:=Lib.hid hcur
   clear hc sC hX he hv hlv hea hwide hbig hout hbel hrow hfo huo hvo hevs hcur
   repeat (first|go_skip|go_guarded|go_step|go_upon)
   obtain⟨W,hW⟩:∃ W,wr.alloc (.cells #[.int .i64 ea,.string X,.slice va lv vc] 86)=W:=⟨_,rfl⟩
   rw [hW] at RV bW ⊢
   obtain⟨t0,t1,t2,tf⟩:=row3 RV
   have hPr:P<wr.heap.size:=(Array.getElem?_eq_some_iff.1 HRow.out).1
   have hRowW:=(bW.block _ hPr).trans HRow.out
   obtain⟨-,-,-,-,-,-,-,s7,-,sf⟩:=row9 hRowW
   have hrW:wr.heap.size<W.heap.size:=(Array.getElem?_eq_some_iff.1 RV).1
   have BW:Hid (Below w0.heap.size w0 W):=Lib.hid (Below.trans HBel.out (bW.mono HBel.out.size))
   have CN2:=Lib.hid (CN.out W.drew ⟨BW.out.os,BW.out.tape,BW.out.output,BW.out.size,BW.out.block⟩)
   refine wp_region_noPanic ?_
   with_reducible refine QT.region_pick (S:=fun w'=>w'.cell? ⟨P,7,none⟩=some (.slice (some ⟨g2,0,none⟩) m k2)/\w'.cell? ⟨wr.heap.size,2,none⟩=some (.slice va lv vc)) [0,1,2,3,4,5,6] [7] 8 (by kernel_rfl) (by kernel_rfl) ?_ ?_ ?_
   ·exact fun _ _ _ _ _ h=>h
   ·exact⟨s7,t2⟩
   intro _
   simp only [QT.pick,List.filterMap_cons,List.filterMap_nil,List.getElem?_cons_succ,List.getElem?_cons_zero,List.drop_succ_cons,List.drop_zero]
   iterate 7 (refine QT.wpTake_cons _ (by rfl) (by intro w' hSw;obtain⟨y0,y1⟩:=hSw;go_simp;first|done|rfl) ?_;try simp only [Act.put,List.setIfInBounds_toArray,List.set_cons_zero,List.set_cons_succ])
   refine QT.wpTake_nil ?_
   intro K' hK
   rw [if_pos (by rfl)]
   go_simp
   refine CN2.out.mono ?_
   rintro r W2 ⟨v9,rfl,ho9,hb9⟩
   simp only []
   obtain⟨a9,c9,hv9,_⟩:=owns_view ho9
   subst hv9
   have b9:Below W.heap.size W W2:=⟨hb9.os,hb9.tape,hb9.output,hb9.size,hb9.block⟩
   have hP2:=(b9.block _ (Nat.lt_of_lt_of_le hPr bW.size)).trans hRowW
   obtain⟨-,-,-,-,-,-,-,x7,-,-⟩:=row9 hP2
   have RV2:=(b9.block _ hrW).trans RV
   obtain⟨-,-,u2,-⟩:=row3 RV2
   refine hK.out _ _ ⟨x7,u2⟩ ?_
   clear hK K'
   refine QT.wpDo_nil ?_
   try simp only [Act.put,List.setIfInBounds_toArray,List.set_cons_zero,List.set_cons_succ]
   have hb2':Below wr.heap.size wr W2:=Below.trans bW (b9.mono bW.size)
   have hcur2:=(hb2'.block _ hg2).trans HCur.out.1
   obtain⟨uz,huz⟩:∃ z,W2.cell? ⟨g2,k*3+2,none⟩=some z:=⟨cur[k*3+2]'HCur.out.2,by rw [cell_of_row W2 g2 _ _ _ _ hcur2];exact Array.getElem?_eq_getElem HCur.out.2⟩
   have hfz:W2.frozen? ⟨g2,k*3+2,none⟩=false:=frozen_of_row W2 g2 _ _ _ hcur2
   have HNext:Hid (BootInv w w0 P m D x (.slice a1 n k1) (.slice (some ⟨g2,0,none⟩) m k2) es vs fs (.int .i64 ((k+1:Nat):Int)) (W2.setCell ⟨g2,k*3+2,none⟩ (.slice a9 lv c9))):=Lib.hid (by
    have hz0:=HOut.out.size
    have:=boot_next (x:=x) (fs:=fs) (evs:=evs) (a':=a9) (c':=c9) HPl.out HP0.out HEv.out hlt HM.out (by rw [HU.out.lens,HM.out]) HE2.out (HOut.out.thenBelow hb2') (Below.trans HBel.out (hb2'.mono HBel.out.size)) ((hb2'.block _ hPr).trans HRow.out) (owns_below HFo.out hb2') (owns_below HUo.out hb2') (fun j e v h1 h2=>owns_below (HVo.out j e v h1 h2) hb2') (by
     rw [HLv.out]
     exact owns_base ho9 _ (by have:=bW.size;show w.heap.size<=W.heap.size;omega))
    rw [HLv.out] at this
    exact this)
   clear ho9 hb9 b9 hP2 RV2 RV bW hW hb2' hcur2
   repeat (first|go_skip|go_guarded|go_step|go_upon)
   refine NoPanic.normal ?_
   repeat (first|go_skip|go_guarded|go_step|go_upon)
   refine⟨?_,by simp [Go.RowKit.intOf];omega⟩
   have h9:=HNext.out
   rw [show ((k+1:Nat):Int)=(k:Int)+1 by omega] at h9
   exact h9
  ·have hkz:¬ (k:Int)<m:=by omega
   obtain rfl:k=m:=by omega
   clear hlt
   repeat (first|go_skip|go_guarded|go_step|go_upon)
   go_end0
   have hvd:vs.drop k=[]:=List.drop_eq_nil_of_le (by rw [HU.out.lens,HM.out];exact Nat.le_refl _)
   rw [hvd,List.append_nil] at huo
   have hD:=diskX_boot (fs:=fs) (es:=es) (evs:=evs) (v1:=.slice a1 n k1) (v2:=.slice a2 k k2) HX.out hout hrow hfo (by rw [HM.out];exact huo) (by rw [hevs,HM.out]) hvo
   exact⟨rfl,hout.mono (fun k _ hk=>.inr hk),_,fun k hk=>hk.imp id (·.1),adr,_,hD⟩
end DG
end Go.Proofs.YtmohjalanhnhbaaGreatDoor
end

section
namespace Go.Proofs.YtmohjalanhnhbaaGreatDoor
open Go.RowKit Go.Lib Go.BigFrame
namespace DG
open OM TP TM DP DM TG TR FP
theorem DS.mono {w W:World} {S:Nat->Prop} {P m n:Nat} {D:Dk} (h:DS w W S P m D) (hm:m<=n):DS w W S P n D:=⟨h.disk,h.lo,h.pl,h.bel,h.num.mono hm⟩
end DG
end Go.Proofs.YtmohjalanhnhbaaGreatDoor
end

section
namespace Go.Proofs.YtmohjalanhnhbaaGreatDoor
open Go.RowKit Go.Lib Go.BigFrame
namespace DG
open OM TP TM DP DM TG TR FP
def Old (c:Nat) (i j:Ino):Prop:=(j.kind=i.kind/\j.mode=i.mode/\j.time=i.time/\j.data <+: i.data)∨(c:Int)<j.time
def Tm (D:Dk):Prop:=∀ (k:Nat) (i:Ino),D.inos[k]?=some i->i.time<=(D.clock:Int)
structure From (c:Nat) (D E:Dk):Prop where
 clock:D.clock<=E.clock
 inos:∀ (k:Nat) (i:Ino),D.inos[k]?=some i->∃ j,E.inos[k]?=some j/\Old c i j
 tm:Tm D->Tm E
end DG
end Go.Proofs.YtmohjalanhnhbaaGreatDoor
end

section
namespace Go.Proofs.YtmohjalanhnhbaaGreatDoor
open Go.RowKit Go.Lib Go.BigFrame
namespace DG
open OM TP TM DP DM TG TR FP
theorem EdArg.below {w W:World} {au:Option Addr} {cu:Nat} {es:List Edit} {vs:List Ev} (h:EdArg w au cu es vs) (hb:Below w.heap.size w W):EdArg W au cu es vs:=by
 refine⟨fun h0=>?_,h.lens,fun j e v he hv=>⟨(h.vals j e v he hv).1.below hb,(h.vals j e v he hv).2⟩,h.no,h.cap⟩
 obtain⟨g,o,e1,hg,hc⟩:=h.lay h0
 have s:∀ j,W.cell? ⟨g,j,none⟩=w.cell? ⟨g,j,none⟩:=fun j=>hb.cell (p:=⟨g,j,none⟩) hg
 exact⟨g,o,e1,Nat.lt_of_lt_of_le hg hb.size,fun k e v he hv=>⟨(s _).trans (hc k e v he hv).a,(s _).trans (hc k e v he hv).p,(s _).trans (hc k e v he hv).s⟩⟩
theorem fates_len:∀ l:List Fate,(fatesC l).length=l.length*4
 | []=>rfl
 | a::l=>by
  show (fateC a++fatesC l).length=_
  rw [List.length_append,fates_len l,List.length_cons]
  show 4+_=_
  omega
theorem num_bootE {m:Nat} {D:Dk} (h:Num m D) (fs:List Fate) {w:World} {au:Option Addr} {cu:Nat} {es:List Edit} {vs:List Ev} (hu:EdArg w au cu es vs) (hel:es.length<=1048576) (hp:∀ e∈es,e.path.length<=maxLen):Num m (bootD D fs es):=by
 refine⟨h.clock,Nat.zero_le _,h.later,h.inos,hel,hp,fun e he=>?_⟩
 obtain⟨j,hj,rfl⟩:=List.mem_iff_getElem.1 he
 obtain⟨v,hv⟩:∃ v,vs[j]?=some v:=⟨_,List.getElem?_eq_getElem (by rw [hu.lens];exact hj)⟩
 have h1:=(hu.vals j _ v (List.getElem?_eq_getElem hj) hv).1
 exact⟨h1.long,h1.max⟩
theorem DS.bootE {w W:World} {S:Nat->Prop} {P m:Nat} {D:Dk} (h:DS w W S P m D) (fs:List Fate) (af:Option Addr) (cf:Nat) (hf:∀ ad,af=some ad->(0<fs.length->ad.block<w.heap.size)/\∀ (j:Nat) (u:Value),(fatesC fs)[j]?=some u->w.cell? (ad.add j)=some u)
  (hno:af=none->fs.length=0/\cf=0) (hl:fs.length<=1048576) (es:List Edit) (vs:List Ev) (au:Option Addr) (cu:Nat) (hu:EdArg w au cu es vs) (hel:es.length<=1048576) (hp:∀ e∈es,e.path.length<=maxLen) :
  Calls Tryz.prog 17 #[.pointer (some ⟨P,0,none⟩),.slice af fs.length cf,.slice au es.length cu] W fun r W'=>r=.returned (.tuple #[])/\Aft w W S P m (bootD D fs es) W':=by
 refine (dboot_edits S W w P D fs af cf es vs au cu h.disk (fun ad ha j u hu=>?_) (fun ad ha h0=>?_) hno hl h.bel h.pl hu hel).mono ?_
 ·obtain⟨h1,h2⟩:=hf ad ha
  have hab:(ad.add j).block=ad.block:=by unfold Addr.add;split<;>rfl
  have h0:0<fs.length:=by have:=(List.getElem?_eq_some_iff.1 hu).1;rw [fates_len] at this;omega
  exact (h.bel.cell (p:=ad.add j) (by rw [hab];exact h1 h0)).trans (h2 j u hu)
 ·have h1:=(hf ad ha).1 h0
  have:=h.pl
  have:=h.bel.size
  exact⟨by omega,by omega⟩
 ·rintro r W' ⟨hr,hd⟩
  exact⟨hr,h.aft hd (num_bootE h.num fs hu hel hp)⟩
end DG
end Go.Proofs.YtmohjalanhnhbaaGreatDoor
end
