import Derived.Test.YtkmcjededpamnaaGreatDoorMg18
import Derived.Test.YtkmcjededpamnaaGreatDoorMg19
import Derived.Test.YtkmcjededpamnaaGreatDoorMg12
import Derived.Test.YtkmcjededpamnaaGreatDoorMg2
import Derived.Test.YtkmcjededpamnaaGreatDoorMg3
import Derived.Test.YtkmcjededpamnaaGreatDoorRkWn
import Derived.Test.YtkmcjededpamnaaGreatDoorDkAsk
set_option linter.all false
set_option maxRecDepth 100000
set_option maxHeartbeats 0
namespace Go.Proofs.YtkmcjededpamnaaGreatDoor
open List(set_cons_zero set_cons_succ setIfInBounds_toArray drop_zero)
open Go.RowKit Go.Lib Go.BigFrame
namespace RK
open OM TP TM DP DM FP DG TG TR
structure Box4(W:World)(Q b1 b2 b3 b4:Nat)(A1 A2 A3 A4:Array Value)(off:Bool)(st:Nat):Prop where
 r1:W.heap[b1]?=some (.cells A1 45 (0,0))
 r2:W.heap[b2]?=some (.cells A2 47 (0,0))
 r3:W.heap[b3]?=some (.cells A3 45 (0,0))
 r4:W.heap[b4]?=some (.cells A4 47 (0,0))
 q4:W.cell? ⟨Q,4,none⟩=some (.bool off)
 q5:W.cell? ⟨Q,5,none⟩=some (.int .i64 st)
 lt:Q<W.heap.size
theorem Box4.below{W W':World}{Q b1 b2 b3 b4:Nat}{A1 A2 A3 A4:Array Value}{off:Bool}{st:Nat}(h:Box4 W Q b1 b2 b3 b4 A1 A2 A3 A4 off st)(hb:Below W.heap.size W W'):Box4 W' Q b1 b2 b3 b4 A1 A2 A3 A4 off st :=
 have s:∀ b o,W.heap[b]?=some o->W'.heap[b]?=some o:=fun b o h=>(hb.block b (Array.getElem?_eq_some_iff.1 h).1).trans h
 ⟨s _ _ h.r1,s _ _ h.r2,s _ _ h.r3,s _ _ h.r4,(hb.cell (p:=⟨Q,4,none⟩) h.lt).trans h.q4,(hb.cell (p:=⟨Q,5,none⟩) h.lt).trans h.q5,Nat.lt_of_lt_of_le h.lt hb.size⟩
theorem own_cells{w:World}{base e size:Nat}{n:Nat}{xs:List Value}{ao:Option Addr}{c:Nat}(h:w.ownsRow base e size (.slice ao n c) n xs):0<n->∃ g ai,ao=some ⟨g,0,none⟩/\base<=g/\w.heap[g]?=some (.cells ai e (0,0))/\n*size<=ai.size:=fun h0=>by
 rcases h.2 with ⟨h1,h2⟩|⟨g,cap,ai,h1,h2,h3,h4,_,h5,_⟩
 ·injection h1 with _ h1 _;omega
 ·injection h1 with h1 _ h6;exact⟨g,ai,h1,h2,h3,by rw[h5];exact Nat.mul_le_mul_right _ h4⟩
theorem eq_st7(a b c:Int)(W:World):(Op.equalIn 10000 47 (.agg #[.int .i64 a,.int .i64 b,.int .i64 c]) (.agg #[.int .i64 a,.int .i64 b,.int .i64 c])).run Tryz.prog W=.ok true W:=by
 have:=DG.eq_st2 ⟨a,b,c⟩ ⟨a,b,c⟩ W;rw[decide_eq_true ⟨rfl,rfl,rfl⟩]at this;exact this
theorem eq_nd7(N1 N2:ByteArray)(nk nm:Int)(W:World):(Op.equalIn 10000 45 (.agg #[.string N1,.int .i64 nk,.string N2,.int .i64 nm]) (.agg #[.string N1,.int .i64 nk,.string N2,.int .i64 nm])).run Tryz.prog W=.ok true W:=by
 have:=TR.eq_nd ⟨N1.data.toList,nk,N2.data.toList,nm⟩ ⟨N1.data.toList,nk,N2.data.toList,nm⟩ W;rw[decide_eq_true rfl]at this;unfold ndVal at this;simp only[txt_data]at this;exact this
theorem druns_any(a0 a1:Option Addr)(c0 c1:Nat)(t:List Nd)(os:List Cal)(fs:List Fate)(af:Option Addr)(cf:Nat)(es:List Edit)(vs:List Ev)(au:Option Addr)(cu:Nat)(w:World)(he:NF.Env w)(hw:TW.Wide w a0 c0 t)(hsm:TR.Small t)(hc:LayC w a1 os)(hlo:∀ c∈os,c.path.length<=1048576/\c.dest.length<=1048576)(hcap:os.length<=c1)(hmax:os.length<=maxLen)
  (hf:∀ ad,af=some ad->(0<fs.length->ad.block<w.heap.size)/\∀(j:Nat) (u:Value),(fatesC fs)[j]?=some u->w.cell? (ad.add j)=some u) (hno:af=none->fs.length=0/\cf=0) (hl:fs.length<=1048576) (hu:EdArg w au cu es vs) (hel:es.length<=1048576) (hp:∀ e∈es,e.path.length<=1048576/\TR.Small e.value/\e.value.length<=maxLen) :
  Calls Tryz.prog 3 #[.slice a0 t.length c0,.agg #[.slice af fs.length cf,.slice au es.length cu],.slice a1 os.length c1] w fun r w'=>r=.returned (.bool true)/\Below w.heap.size w w':=by
 have HE:=hid he;have HW:=hid hw;have cO:=hid hsm;have HC:=hid hc;have cQ:=hid hlo;have HF:=hid hf;have b7:=hid hno;have bu:=hid hl;have HU:=hid hu;have bL:=hid hp;have bH:=hid hel;have aA:=hu.cap;obtain⟨n,hn⟩:∃ n,t.length=n:=⟨_,rfl⟩;obtain⟨m,hm⟩:∃ m,os.length=m:=⟨_,rfl⟩;obtain⟨nf,bq⟩:∃ n,fs.length=n:=⟨_,rfl⟩;obtain⟨nu,aQ⟩:∃ n,es.length=n:=⟨_,rfl⟩;have HN:=hid hn;have HM:=hid hm;have bV:=hid bq;have bw:=hid aQ;unfold maxLen at hmax;rw[hn,hm,bq,aQ];rw[hm]at hcap hmax;rw[aQ]at hel aA;have cY:(m:Int)<=9223372036854775807:=by omega
 have b0:Below w.heap.size w (w.alloc (.cells #[.slice af nf cf,.slice au nu cu] 26)):=(Below.refl _ _).alloc (Nat.le_refl _) _;have aO:=heap_alloc_new w (.cells #[.slice af nf cf,.slice au nu cu] 26);obtain⟨w0,bl⟩:∃ W,w.alloc (.cells #[.slice af nf cf,.slice au nu cu] 26)=W:=⟨_,rfl⟩;rw[bl]at b0 aO;have CA:=hid (DG.awake_any w0 (he.below b0));have B0:=hid b0;have cP:=hid aO;have bR:Hid (w.heap.size<w0.heap.size):=hid (Array.getElem?_eq_some_iff.1 aO).1;clear he hw hsm hc hlo hf hno hl hu hp b0 aO hn hm bq aQ;go_enter Tryz.func3,Tryz.ntmps3;repeat (first|go_skip|go_guarded|go_step|go_upon)
 try rw[bl]
 clear bl;refine CA.out.mono ?_;rintro r w1 ⟨rfl,aR⟩;simp only[];have B1:Hid (Below w.heap.size w w1):=hid (Below.trans B0.out (aR.mono B0.out.size));have bT:Hid (w.heap.size<w1.heap.size):=hid (Nat.lt_of_lt_of_le bR.out aR.size);have cw:Hid (w1.heap[w.heap.size]?=some (.cells #[.slice af nf cf,.slice au nu cu] 26 (0,0))):=hid ((aR.block _ bR.out).trans cP.out);clear aR;have aY:=hid (HE.out.below B1.out);by_cases ht:treeB t=true
 ·have CN:Hid (Calls Tryz.prog 10 #[.slice a0 n c0] w1 fun r w'=>∃ S P,r=.returned (.tuple #[.pointer (some ⟨P,0,none⟩),.int .i64 0])/\DS w1 w' S P 0 (newD t)):=hid (by
   have:=new_ds aY.out (HW.out.below B1.out) ht;rw[HN.out]at this
   exact this)
  have bC:=hid ((tree_iff t).1 ht);clear ht;repeat (first|go_skip|go_guarded|go_step|go_upon)
  refine CN.out.mono ?_;rintro r w2 ⟨S,P,rfl,h2⟩;simp only[];have D2:=hid h2
  have CQ:Hid (Calls Tryz.prog 11 #[.slice a0 n c0] w2 fun r w'=>∃ T Q,r=.returned (.tuple #[.pointer (some ⟨Q,0,none⟩),.int .i64 0])/\RS w2 w' T Q 0 (newD t)):=hid (by
   have:=knew_any w2 a0 c0 t ((HW.out.below B1.out).below h2.bel).lay bC.out;rw[HN.out]at this
   exact this)
  clear h2;repeat (first|go_skip|go_guarded|go_step|go_upon)
  refine CQ.out.mono ?_;rintro r w3 ⟨T,Q,rfl,h3⟩;simp only[];have P3:=hid (PrK.start D2.out h3);have bU:Hid (w3.heap[w.heap.size]?=some (.cells #[.slice af nf cf,.slice au nu cu] 26 (0,0))):=hid ((P3.out.bel.block _ bT.out).trans cw.out);clear h3;obtain⟨y0,y1,yf⟩:=row2 bU.out
  have bW:∀ ad,af=some ad->(0<fs.length->ad.block<w1.heap.size)/\∀(j:Nat) (u:Value),(fatesC fs)[j]?=some u->w1.cell? (ad.add j)=some u:=fun ad ha=>⟨fun h0=>Nat.lt_of_lt_of_le ((HF.out ad ha).1 h0) B1.out.size,fun j u hj=>((by
   have co:(ad.add j).block=ad.block:=by unfold Addr.add;split<;>rfl
   have h0:0<fs.length:=by have:=(List.getElem?_eq_some_iff.1 hj).1;rw[fates_len]at this;omega
   exact(B1.out.cell (p:=ad.add j) (by rw[co];exact(HF.out ad ha).1 h0)).trans ((HF.out ad ha).2 j u hj)))⟩
  have aX:=hid bW;have bA:∀ e∈es,e.path.length<=maxLen:=fun e he=>by have:=(bL.out e he).1;unfold maxLen;omega
  have bX:=hid bA
  have CB:Hid (Calls Tryz.prog 17 #[.pointer (some ⟨P,0,none⟩),.slice af nf cf,.slice au nu cu] w3 fun r W'=>r=.returned (.tuple #[])/\PrK w1 W' P Q 0 (bootD (newD t) fs es) 0 (newD t) (fun k=>k<w1.heap.size)/\∀ k,k<w1.heap.size->W'.heap[k]?=w3.heap[k]?):=hid (by
   have:=P3.out.left (fun S hd=>hd.bootE fs af cf aX.out b7.out bu.out es vs au cu (HU.out.below B1.out) bH.out bX.out);rw[bV.out,bw.out]at this
   exact this)
  clear bW bA;repeat (first|go_skip|go_guarded|go_step|go_upon)
  refine CB.out.mono ?_;rintro r w4 ⟨rfl,h4,bz⟩;simp only[];have P4:=hid h4;have cj:=hid ((bz _ bT.out).trans bU.out);clear h4 bz y0 y1 yf;obtain⟨y0,y1,yf⟩:=row2 cj.out
  have CK:Hid (Calls Tryz.prog 18 #[.pointer (some ⟨Q,0,none⟩),.slice af nf cf,.slice au nu cu] w4 fun r W'=>r=.returned (.tuple #[])/\PrK w1 W' P Q 0 (bootD (newD t) fs es) 0 (bootD (newD t) fs es) (fun k=>k<w1.heap.size)/\∀ k,k<w1.heap.size->W'.heap[k]?=w4.heap[k]?):=hid (by
   have:=P4.out.right (fun T hr=>kboot_any w1 w4 T Q 0 (newD t) hr fs af cf es vs au cu ⟨fun ad ha=>(aX.out ad ha).2,fun ad ha=>(aX.out ad ha).1,fun h=>(b7.out h).1,bu.out⟩ (HU.out.below B1.out) bH.out bX.out);rw[bV.out,bw.out]at this
   exact this)
  repeat (first|go_skip|go_guarded|go_step|go_upon)
  refine CK.out.mono ?_;rintro r w5 ⟨rfl,h5,-⟩;simp only[];have P5:=hid (h5.weak (L:=fun _=>False) (fun k hk=>absurd hk id));have V5:Hid (RK.V (bootD (newD t) fs es)):=hid ((RK.V.new bC.out).boot fs bL.out);clear h5 y0 y1 yf;repeat (first|go_skip|go_guarded|go_step|go_upon)
  go_loopw [86] (fun s86 wr=>∃(k:Nat) (D:Dk),s86=.int .i64 k/\k<=m/\k<=60/\PrK w1 wr P Q k D k D (fun _=>False)/\RK.V D) (fun s86 _=>m-(RowKit.intOf s86).toNat)
  case atStart=>exact⟨0,_,rfl,Nat.zero_le _,Nat.zero_le _,P5.out,V5.out⟩
  case round =>
   obtain⟨k,D,rfl,hk,cD,aw,ca⟩:=hrel;have a2:=hid aw;have bf:=hid ca;clear ca;by_cases hlt:k<m
   ·have cz:(k:Int)<m:=by omega
    obtain⟨g,o,rfl,hg,ah⟩:=HC.out (by rw[HM.out];omega);obtain⟨c,aK⟩:∃ c,os[k]?=some c:=⟨os[k]'(by rw[HM.out];exact hlt),List.getElem?_eq_getElem _⟩;have aZ:=cQ.out c (List.mem_of_getElem? aK);have aS:=hid aZ;obtain⟨e0,e1,e2,e3,e4⟩:=ah k c aK;have aB:g<w1.heap.size:=Nat.lt_of_lt_of_le hg B1.out.size;have sC:∀ j,wr.cell? ⟨g,j,none⟩=w.cell? ⟨g,j,none⟩:=fun j=>(aw.bel.cell (p:=⟨g,j,none⟩) aB).trans (B1.out.cell (p:=⟨g,j,none⟩) hg);rw[<- sC]at e0 e1 e2 e3 e4;have cR:g<wr.heap.size:=Nat.lt_of_lt_of_le aB aw.bel.size;obtain⟨X,hX,_⟩:=txt_of c.path;obtain⟨Y,hY,_⟩:=txt_of c.dest;obtain⟨V,hV,_⟩:=txt_of c.data;obtain⟨wh,aN⟩:∃ z,c.what=z:=⟨_,rfl⟩;obtain⟨md,aL⟩:∃ z,c.mode=z:=⟨_,rfl⟩;rw[hX]at e1;rw[hY]at e2;rw[hV]at e3;rw[aN]at e0;rw[aL]at e4;have aP:calV c=.agg #[.int .i64 wh,.string X,.string Y,.string V,.int .i64 md]:=by unfold calV;rw[aN,hX,hY,hV,aL]
    have b9:Below wr.heap.size wr (wr.alloc (.cells #[.int .i64 wh,.string X,.string Y,.string V,.int .i64 md] 43)):=(Below.refl _ _).alloc (Nat.le_refl _) _;have aq:=hid (aw.grow b9);have R9:=hid (heap_alloc_new wr (.cells #[.int .i64 wh,.string X,.string Y,.string V,.int .i64 md] 43));have Z9:Hid (wr.heap.size<(wr.alloc (.cells #[.int .i64 wh,.string X,.string Y,.string V,.int .i64 md] 43)).heap.size):=hid (Array.getElem?_eq_some_iff.1 R9.out).1;clear b9;by_cases h60:k=60
    ·have cK:((k:Int)==60)=true:=by simp[h60]
     clear ah aK sC hX hY hV aN aL aP aw aZ h60;obtain⟨a7,a8,am,ac⟩:=aq.out.rtrace;have aj:=aq.out.qlt;obtain⟨L,hL⟩:∃ z,D.trace.length=z:=⟨_,rfl⟩;have aU:L<=60:=by have:=aq.out.tlen;omega
     have ag:=hid hL;rw[hL]at am ac;have ay:=hid ac;clear hL ac;repeat (first|go_skip|go_guarded|go_step|go_upon)
     refine wp_region_noPanic ?_;with_reducible refine QT.region_mix (S:=fun w'=>w'.cell? ⟨Q,7,none⟩=some (.slice a7 L a8)) [(true,0),(true,2),(true,3),(true,4),(true,5),(false,1),(false,6)] 7 (by kernel_rfl) (by kernel_rfl) ?_ ?_ ?_
     ·exact fun _ _ _ _ _ h=>h
     ·exact am
     intro _;simp only[QT.pickM,List.filterMap_cons,List.filterMap_nil,List.getElem?_cons_succ,List.getElem?_cons_zero,Option.map_some,List.drop_succ_cons,drop_zero];refine QT.wpMix_take _ (by rfl) (by intro w' aa;go_simp;first|done|rfl|simp) ?_;try simp only[Act.put,setIfInBounds_toArray,set_cons_zero,set_cons_succ]
     refine QT.wpMix_take _ (by rfl) (by intro w' aa;go_simp;first|done|rfl|simp) ?_;try simp only[Act.put,setIfInBounds_toArray,set_cons_zero,set_cons_succ]
     refine QT.wpMix_take _ (by rfl) (by intro w' aa;go_simp;first|done|rfl|simp) ?_;try simp only[Act.put,setIfInBounds_toArray,set_cons_zero,set_cons_succ]
     refine QT.wpMix_take _ (by rfl) (by intro w' aa;go_simp;first|done|rfl|simp) ?_;try simp only[Act.put,setIfInBounds_toArray,set_cons_zero,set_cons_succ]
     refine QT.wpMix_take _ (by rfl) (by intro w' aa;go_simp;first|done|rfl|simp) ?_;try simp only[Act.put,setIfInBounds_toArray,set_cons_zero,set_cons_succ]
     intro K' hK;rw[if_pos (by rfl)];go_simp;refine((aq.out.below ((Below.refl _ _).drew)).dtrace (by omega)).mono ?_;rintro r w6 ⟨v6,rfl,ak,aC⟩;simp only[];have B6:=hid (((Below.refl _ _).drew).trans aC);have ar:=(B6.out.cell (p:=⟨Q,7,none⟩) aj).trans am;refine hK.out _ _ ar ?_;clear hK K';try simp only[Act.put,setIfInBounds_toArray,set_cons_zero,set_cons_succ]
     obtain⟨bs,br,aH,ab⟩:=owns_view ak;rw[ag.out]at aH ab;subst aH
     have CD:=did_any bs a7 br a8 D.trace w6 (fun h0=>by
      rw[ag.out]at h0 ⊢;obtain⟨g,e,h1,_,h2⟩:=ab h0
      exact⟨g,e,h1,h2⟩) (fun h0=>by
      rw[ag.out]at h0 ⊢;obtain⟨g,e,h1,h2⟩:=ay.out h0
      exact⟨g,e,Nat.lt_of_lt_of_le h1 B6.out.size,fun j hj=>(B6.out.cell (p:=⟨g,j,none⟩) h1).trans (h2 j hj)⟩) (by have:=ag.out;omega)
     rw[ag.out]at CD;have aT:=hid CD;clear CD ak aC ab;intro K' hK;rw[if_pos (by rfl)];go_simp;refine aT.out.mono ?_;rintro r w7 ⟨rfl,ax⟩;simp only[];refine hK.out _ _ ((ax.cell (p:=⟨Q,7,none⟩) (Nat.lt_of_lt_of_le aj B6.out.size)).trans ar) ?_;clear hK K';try simp only[Act.put,setIfInBounds_toArray,set_cons_zero,set_cons_succ]
     have B7:=hid (Below.trans B6.out (ax.mono B6.out.size));clear ax am ar;refine QT.wpMix_nil ?_;repeat (first|go_skip|go_guarded|go_step|go_upon)
     refine NoPanic.normal ?_;repeat (first|go_skip|go_guarded|go_step|go_upon)
     go_ret;exact⟨by first|rfl|simp,Below.trans B1.out ((Below.trans aq.out.bel (B7.out.mono aq.out.bel.size)).mono B1.out.size)⟩
    ·have cK:((k:Int)==60)=false:=by simp;omega
     have cg:k<60:=by omega
     clear h60;obtain⟨⟨DN,⟨AE,⟨np,nk,nd,nm⟩,⟨s1,s2,s3⟩,TX⟩⟩,a6⟩:∃ z,askD D c=z:=⟨_,rfl⟩;obtain⟨N1,bi,_⟩:=txt_of np;obtain⟨N2,bo,_⟩:=txt_of nd
     have cF:Hid (∀ W K,PrK w1 W P Q k D k D K->Calls Tryz.prog 19 #[.pointer (some ⟨P,0,none⟩),.agg #[.int .i64 wh,.string X,.string Y,.string V,.int .i64 md]] W fun r W'=>∃ v,(r=.returned (.tuple #[.int .i64 AE,.agg #[.string N1,.int .i64 nk,.string N2,.int .i64 nm],.agg #[.int .i64 s1,.int .i64 s2,.int .i64 s3],v])/\W'.ownsRow W.heap.size 9 1 v TX.length (TX.map txt))/\PrK w1 W' P Q (k+1) DN k D (fun j=>K j\/v.ownBlock=some j)/\(∀ g,v.ownBlock=some g->W.heap.size<=g)/\∀ j,K j->W'.heap[j]?=W.heap[j]?):=hid (fun W K hW=>by
      refine hW.leftN (R:=fun v r W'=>r=.returned (.tuple #[.int .i64 AE,.agg #[.string N1,.int .i64 nk,.string N2,.int .i64 nm],.agg #[.int .i64 s1,.int .i64 s2,.int .i64 s3],v])/\W'.ownsRow W.heap.size 9 1 v TX.length (TX.map txt)) (fun S hd=>?_);have:=DG.ask_any hd aY.out (by omega) c (by have:=aS.out.1;unfold maxLen;omega) (by have:=aS.out.2;unfold maxLen;omega);rw[a6,aP]at this;refine this.mono ?_;rintro r W' ⟨v,hr,ho,hA⟩;unfold ndVal stampVal at hr;simp only at hr ho;rw[bi,bo]at hr
      exact⟨v,⟨hr,ho⟩,fun g hg=>(ho.lt g hg),hA⟩)
     have cH:Hid (∀ W K,PrK w1 W P Q (k+1) DN k D K->Calls Tryz.prog 20 #[.pointer (some ⟨Q,0,none⟩),.agg #[.int .i64 wh,.string X,.string Y,.string V,.int .i64 md]] W fun r W'=>∃ v,(r=.returned (.tuple #[.int .i64 AE,.agg #[.string N1,.int .i64 nk,.string N2,.int .i64 nm],.agg #[.int .i64 s1,.int .i64 s2,.int .i64 s3],v])/\W'.ownsRow W.heap.size 9 1 v TX.length (TX.map txt))/\PrK w1 W' P Q (k+1) DN (k+1) DN (fun j=>K j\/v.ownBlock=some j)/\(∀ g,v.ownBlock=some g->W.heap.size<=g)/\∀ j,K j->W'.heap[j]?=W.heap[j]?):=hid (fun W K hW=>by
      refine hW.rightN (R:=fun v r W'=>r=.returned (.tuple #[.int .i64 AE,.agg #[.string N1,.int .i64 nk,.string N2,.int .i64 nm],.agg #[.int .i64 s1,.int .i64 s2,.int .i64 s3],v])/\W'.ownsRow W.heap.size 9 1 v TX.length (TX.map txt)) (fun S hd=>?_);have:=want_any hd bf.out (by omega) c aS.out.1 aS.out.2;rw[a6,aP]at this;refine this.mono ?_;rintro r W' ⟨v,hr,ho,hA⟩;unfold ndVal stampVal at hr;simp only at hr ho;rw[bi,bo]at hr
      exact⟨v,⟨hr,ho⟩,fun g hg=>(ho.lt g hg),hA⟩)
     have az:Hid (RK.V DN):=hid (by
      have:=bf.out.ask c;rw[a6]at this
      exact this)
     have cJ:Hid (TX.length<=1000):=hid (by
      have:=texts_len bf.out c;rw[a6]at this
      exact this)
     clear ah aK sC hX hY hV aN aL aP aw aZ a6 bi bo;obtain⟨x0,x1,x2,x3,x4,xf⟩:=DG.row5c R9.out;repeat (first|go_skip|go_guarded|go_step|go_upon)
     refine(cF.out _ _ aq.out).mono ?_;rintro r w6 ⟨v,⟨rfl,ak⟩,h6,cB,bI⟩;obtain⟨av,cv,hv,_⟩:=owns_view ak;obtain⟨nv,bk⟩:∃ n,TX.length=n:=⟨_,rfl⟩;have aV:=hid bk;rw[bk]at hv ak;subst hv;simp only[];have cx:=hid ak;have P6:=hid h6;have bm:=hid ((bI _ (.inr ⟨Nat.le_refl _,Z9.out⟩)).trans R9.out);clear ak h6 cB bI bk x0 x1 x2 x3 x4 xf;obtain⟨x0,x1,x2,x3,x4,xf⟩:=DG.row5c bm.out;have cE:wr.heap.size<w6.heap.size:=(Array.getElem?_eq_some_iff.1 bm.out).1;have b0:Below w6.heap.size w6 ((w6.alloc (.cells #[.string N1,.int .i64 nk,.string N2,.int .i64 nm] 45)).alloc (.cells #[.int .i64 s1,.int .i64 s2,.int .i64 s3] 47)):=((Below.refl _ _).alloc (Nat.le_refl _) _).alloc (by simp) _;have bt:((w6.alloc (.cells #[.string N1,.int .i64 nk,.string N2,.int .i64 nm] 45)).alloc (.cells #[.int .i64 s1,.int .i64 s2,.int .i64 s3] 47)).heap[w6.heap.size]?=some (.cells #[.string N1,.int .i64 nk,.string N2,.int .i64 nm] 45 (0,0)):=RK.old_row (heap_alloc_new w6 _)
     have bj:((w6.alloc (.cells #[.string N1,.int .i64 nk,.string N2,.int .i64 nm] 45)).alloc (.cells #[.int .i64 s1,.int .i64 s2,.int .i64 s3] 47)).heap[w6.heap.size+1]?=some (.cells #[.int .i64 s1,.int .i64 s2,.int .i64 s3] 47 (0,0)):=by
      have:=heap_alloc_new (w6.alloc (.cells #[.string N1,.int .i64 nk,.string N2,.int .i64 nm] 45)) (.cells #[.int .i64 s1,.int .i64 s2,.int .i64 s3] 47);rw[World.size_alloc]at this;exact this
     have bp:((w6.alloc (.cells #[.string N1,.int .i64 nk,.string N2,.int .i64 nm] 45)).alloc (.cells #[.int .i64 s1,.int .i64 s2,.int .i64 s3] 47)).heap.size=w6.heap.size+2:=by simp
     have bd:=(b0.block _ cE).trans bm.out;have P7:=hid (P6.out.grow b0);have bG:=hid (owns_below cx.out b0);clear x0 x1 x2 x3 x4 xf;obtain⟨w7,aW⟩:∃ z,((w6.alloc (.cells #[.string N1,.int .i64 nk,.string N2,.int .i64 nm] 45)).alloc (.cells #[.int .i64 s1,.int .i64 s2,.int .i64 s3] 47))=z:=⟨_,rfl⟩;rw[aW]at P7 bG bd bt bj bp;have cd:=hid bd;have cI:=hid bt;have cy:=hid bj;have ck:=hid bp;clear bd bt bj bp b0;repeat (first|go_skip|go_guarded|go_step|go_upon)
     try rw[aW]
     obtain⟨x0,x1,x2,x3,x4,xf⟩:=DG.row5c cd.out;clear aW;simp only[x0,x1,x2,x3,x4,Result.andThen];go_simp;repeat (first|go_skip|go_guarded|go_step|go_upon)
     clear x0 x1 x2 x3 x4 xf;refine(cH.out _ _ P7.out).mono ?_;rintro r w8 ⟨v2,⟨rfl,aJ⟩,h8,cG,aM⟩;obtain⟨cU,cZ,b8,_⟩:=owns_view aJ;rw[aV.out]at b8 aJ;subst b8;simp only[];have cT:=aq.out;have c6:=hid aJ;have P8:=hid h8;have cW:=ck.out;have cm:=hid ((aM w6.heap.size (.inr ⟨Nat.le_refl _,by omega⟩)).trans cI.out);have cp:=hid ((aM (w6.heap.size+1) (.inr ⟨by omega,by omega⟩)).trans cy.out);have bc:=hid (own_same bG.out (fun g hg=>aM g (.inl (.inr hg))));clear aJ h8 cG aM;have b1:Below w8.heap.size w8 ((w8.alloc (.cells #[.string N1,.int .i64 nk,.string N2,.int .i64 nm] 45)).alloc (.cells #[.int .i64 s1,.int .i64 s2,.int .i64 s3] 47)):=((Below.refl _ _).alloc (Nat.le_refl _) _).alloc (by simp) _;have be:((w8.alloc (.cells #[.string N1,.int .i64 nk,.string N2,.int .i64 nm] 45)).alloc (.cells #[.int .i64 s1,.int .i64 s2,.int .i64 s3] 47)).heap[w8.heap.size]?=some (.cells #[.string N1,.int .i64 nk,.string N2,.int .i64 nm] 45 (0,0)):=RK.old_row (heap_alloc_new w8 _)
     have bb:((w8.alloc (.cells #[.string N1,.int .i64 nk,.string N2,.int .i64 nm] 45)).alloc (.cells #[.int .i64 s1,.int .i64 s2,.int .i64 s3] 47)).heap[w8.heap.size+1]?=some (.cells #[.int .i64 s1,.int .i64 s2,.int .i64 s3] 47 (0,0)):=by
      have:=heap_alloc_new (w8.alloc (.cells #[.string N1,.int .i64 nk,.string N2,.int .i64 nm] 45)) (.cells #[.int .i64 s1,.int .i64 s2,.int .i64 s3] 47);rw[World.size_alloc]at this;exact this
     have bP:((w8.alloc (.cells #[.string N1,.int .i64 nk,.string N2,.int .i64 nm] 45)).alloc (.cells #[.int .i64 s1,.int .i64 s2,.int .i64 s3] 47)).heap.size=w8.heap.size+2:=by simp
     have P9:=hid ((P8.out.weak (L:=fun _=>False) (fun k hk=>absurd hk id)).below b1);have bM:=hid (owns_below c6.out b1);have aF:=hid (owns_below bc.out b1);have bE:=hid (RK.old_row (o:=.cells #[.int .i64 s1,.int .i64 s2,.int .i64 s3] 47) (RK.old_row (o:=.cells #[.string N1,.int .i64 nk,.string N2,.int .i64 nm] 45) cm.out));have bY:=hid (RK.old_row (o:=.cells #[.int .i64 s1,.int .i64 s2,.int .i64 s3] 47) (RK.old_row (o:=.cells #[.string N1,.int .i64 nk,.string N2,.int .i64 nm] 45) cp.out));obtain⟨w9,bg⟩:∃ z,((w8.alloc (.cells #[.string N1,.int .i64 nk,.string N2,.int .i64 nm] 45)).alloc (.cells #[.int .i64 s1,.int .i64 s2,.int .i64 s3] 47))=z:=⟨_,rfl⟩;rw[bg]at P9 bM aF bE bY be bb bP;have cb:=hid P9.out.dtree;have cq:Hid (Box4 w9 Q w6.heap.size (w6.heap.size+1) w8.heap.size (w8.heap.size+1) #[.string N1,.int .i64 nk,.string N2,.int .i64 nm] #[.int .i64 s1,.int .i64 s2,.int .i64 s3] #[.string N1,.int .i64 nk,.string N2,.int .i64 nm] #[.int .i64 s1,.int .i64 s2,.int .i64 s3] DN.off DN.trace.length):=hid ⟨bE.out,bY.out,be,bb,P9.out.qcells.1,P9.out.qcells.2,P9.out.qlt⟩;clear be bb bP b1;repeat (first|go_skip|go_guarded|go_step|go_upon)
     try rw[bg]
     clear bg;refine cb.out.mono ?_;rintro r wT ⟨v5,rfl,o5,b5⟩;simp only[];obtain⟨a5,k5,bB,aD⟩:=lay_own o5;obtain⟨q,hq⟩:∃ z,(treeD DN).length=z:=⟨_,rfl⟩;have HQ:=hid hq;have cV:q<=1000:=by have:=az.out.tree.len;omega
     rw[hq]at bB o5;subst bB;have aG:=hid aD;have cr:=hid (own_cells o5);have aI:=hid (P9.out.grow b5);have ap:=hid (cq.out.below b5);have cA:=hid (owns_below aF.out b5);have c9:=hid (owns_below bM.out b5);clear o5 b5 aD hq;repeat (first|go_skip|go_guarded|go_step|go_upon)
     refine wp_region_noPanic ?_;with_reducible refine QT.region_mix (S:=fun w'=>Box4 w' Q w6.heap.size (w6.heap.size+1) w8.heap.size (w8.heap.size+1) #[.string N1,.int .i64 nk,.string N2,.int .i64 nm] #[.int .i64 s1,.int .i64 s2,.int .i64 s3] #[.string N1,.int .i64 nk,.string N2,.int .i64 nm] #[.int .i64 s1,.int .i64 s2,.int .i64 s3] DN.off DN.trace.length) [(true,0),(true,1),(true,2),(true,3),(true,4),(true,5),(true,6),(true,7),(true,8),(true,9),(true,10),(true,11),(true,12),(true,13),(true,14),(true,15),(false,16),(true,17),(true,18),(true,19),(true,20),(true,22),(true,23),(true,24),(true,25),(false,21),(true,26),(true,27),(true,28),(true,29),(true,31),(true,32),(true,33),(true,34),(false,30),(true,35),(true,36),(true,37),(true,38),(true,39),(false,40),(false,41),(true,42),(true,43),(true,44),(true,45),(false,46)] 47 (by kernel_rfl) (by kernel_rfl) ?_ ?_ ?_
     ·exact fun _ _ _ _ _ h=>h
     ·exact ap.out.below (Below.refl _ _).drew
     intro _;simp only[QT.pickM,List.filterMap_cons,List.filterMap_nil,List.getElem?_cons_succ,List.getElem?_cons_zero,Option.map_some,List.drop_succ_cons,drop_zero];have qn:=eq_nd7 N1 N2 nk nm;have qs:=eq_st7 s1 s2 s3;obtain⟨ob,bQ⟩:∃ b,DN.off=b:=⟨_,rfl⟩;obtain⟨L,hL⟩:∃ b,DN.trace.length=b:=⟨_,rfl⟩;have cX:((!ob)==ob)=false:=by cases ob<;>rfl
     have c5:=hid bQ;have ag:=hid hL;rw[bQ,hL]at ap ⊢;iterate 16 ((first|(refine QT.wpMix_take (.bool false) (by rfl) (by intro w' aa;obtain⟨g1,g2,g3,g4,y4,y5,_⟩:=aa;obtain⟨t0,t1,t2,t3,tf⟩:=row4 g1;obtain⟨u0,u1,u2,uf⟩:=row3 g2;obtain⟨v0,v1,v2,v3,vf⟩:=row4 g3;obtain⟨z0,z1,z2,zf⟩:=row3 g4;go_simp;first|done|rfl|simp) ?_)|(refine QT.wpMix_take _ (by rfl) (by intro w' aa;obtain⟨g1,g2,g3,g4,y4,y5,_⟩:=aa;obtain⟨t0,t1,t2,t3,tf⟩:=row4 g1;obtain⟨u0,u1,u2,uf⟩:=row3 g2;obtain⟨v0,v1,v2,v3,vf⟩:=row4 g3;obtain⟨z0,z1,z2,zf⟩:=row3 g4;go_simp;first|done|rfl|simp) ?_));try simp only[Act.put,setIfInBounds_toArray,set_cons_zero,set_cons_succ])
     intro K' hK;rw[if_pos (by rfl)];go_simp;refine(rtexts_own _ _ TX _ _ _ (owns_below (by rw[aV.out];exact cA.out) (Below.refl _ _).drew) (owns_below (by rw[aV.out];exact c9.out) (Below.refl _ _).drew) (by have:=cJ.out;omega)).mono ?_;rintro r wS ⟨rfl,bS⟩;simp only[];have BS:=hid ((Below.refl _ _).drew.trans bS);clear bS;refine hK.out _ _ (ap.out.below (BS.out)) ?_;clear hK K';try simp only[Act.put,setIfInBounds_toArray,set_cons_zero,set_cons_succ]
     iterate 8 ((first|(refine QT.wpMix_take (.bool false) (by rfl) (by intro w' aa;obtain⟨g1,g2,g3,g4,y4,y5,_⟩:=aa;obtain⟨t0,t1,t2,t3,tf⟩:=row4 g1;obtain⟨u0,u1,u2,uf⟩:=row3 g2;obtain⟨v0,v1,v2,v3,vf⟩:=row4 g3;obtain⟨z0,z1,z2,zf⟩:=row3 g4;go_simp;first|done|rfl|simp) ?_)|(refine QT.wpMix_take _ (by rfl) (by intro w' aa;obtain⟨g1,g2,g3,g4,y4,y5,_⟩:=aa;obtain⟨t0,t1,t2,t3,tf⟩:=row4 g1;obtain⟨u0,u1,u2,uf⟩:=row3 g2;obtain⟨v0,v1,v2,v3,vf⟩:=row4 g3;obtain⟨z0,z1,z2,zf⟩:=row3 g4;go_simp;first|done|rfl|simp) ?_));try simp only[Act.put,setIfInBounds_toArray,set_cons_zero,set_cons_succ])
     intro K' hK;rw[if_pos (by rfl)];go_simp;refine((aI.out.below BS.out).don).mono ?_;rintro r wU ⟨rfl,rfl⟩;simp only[];rw[c5.out];refine hK.out _ _ (ap.out.below (BS.out)) ?_;clear hK K';try simp only[Act.put,setIfInBounds_toArray,set_cons_zero,set_cons_succ]
     iterate 8 ((first|(refine QT.wpMix_take (.bool false) (by rfl) (by intro w' aa;obtain⟨g1,g2,g3,g4,y4,y5,_⟩:=aa;obtain⟨t0,t1,t2,t3,tf⟩:=row4 g1;obtain⟨u0,u1,u2,uf⟩:=row3 g2;obtain⟨v0,v1,v2,v3,vf⟩:=row4 g3;obtain⟨z0,z1,z2,zf⟩:=row3 g4;go_simp;first|done|rfl|simp) ?_)|(refine QT.wpMix_take _ (by rfl) (by intro w' aa;obtain⟨g1,g2,g3,g4,y4,y5,_⟩:=aa;obtain⟨t0,t1,t2,t3,tf⟩:=row4 g1;obtain⟨u0,u1,u2,uf⟩:=row3 g2;obtain⟨v0,v1,v2,v3,vf⟩:=row4 g3;obtain⟨z0,z1,z2,zf⟩:=row3 g4;go_simp;first|done|rfl|simp) ?_));try simp only[Act.put,setIfInBounds_toArray,set_cons_zero,set_cons_succ])
     intro K' hK;rw[if_pos (by rfl)];go_simp;refine((aI.out.below BS.out).dsteps).mono ?_;rintro r wU ⟨rfl,rfl⟩;simp only[];rw[ag.out];refine hK.out _ _ (ap.out.below (BS.out)) ?_;clear hK K';try simp only[Act.put,setIfInBounds_toArray,set_cons_zero,set_cons_succ]
     iterate 5 ((first|(refine QT.wpMix_take (.bool false) (by rfl) (by intro w' aa;obtain⟨g1,g2,g3,g4,y4,y5,_⟩:=aa;obtain⟨t0,t1,t2,t3,tf⟩:=row4 g1;obtain⟨u0,u1,u2,uf⟩:=row3 g2;obtain⟨v0,v1,v2,v3,vf⟩:=row4 g3;obtain⟨z0,z1,z2,zf⟩:=row3 g4;go_simp;first|done|rfl|simp) ?_)|(refine QT.wpMix_take _ (by rfl) (by intro w' aa;obtain⟨g1,g2,g3,g4,y4,y5,_⟩:=aa;obtain⟨t0,t1,t2,t3,tf⟩:=row4 g1;obtain⟨u0,u1,u2,uf⟩:=row3 g2;obtain⟨v0,v1,v2,v3,vf⟩:=row4 g3;obtain⟨z0,z1,z2,zf⟩:=row3 g4;go_simp;first|done|rfl|simp) ?_));try simp only[Act.put,setIfInBounds_toArray,set_cons_zero,set_cons_succ])
     intro K' hK;rw[if_pos (by rfl)];go_simp;refine((aI.out.below BS.out).ktree az.out).mono ?_;rintro r wU ⟨v3,rfl,o3,b3⟩;simp only[];have BU:=hid (Below.trans BS.out (b3.mono BS.out.size));obtain⟨a3,k3,bx,a4⟩:=lay_own o3;rw[HQ.out]at bx;subst bx;have bh:=hid a4;clear o3 b3 a4;refine hK.out _ _ (ap.out.below (BU.out)) ?_;clear hK K';try simp only[Act.put,setIfInBounds_toArray,set_cons_zero,set_cons_succ]
     have ba:(treeD DN).length<=maxLen:=by have:=az.out.tree.len;unfold maxLen;omega
     have bJ:=rsame_any a5 a3 k5 k3 _ _ wU (aG.out.below BU.out) bh.out ba ba;rw[HQ.out]at bJ;intro K' hK;rw[if_pos (by rfl)];go_simp;refine bJ.mono ?_;rintro r wV ⟨rfl,b4⟩;simp only[];have BV:=hid (Below.trans BU.out (b4.mono BU.out.size));clear b4;try rw[show decide (treeD DN=treeD DN)=true by simp]
     refine hK.out _ _ (ap.out.below (BV.out)) ?_;clear hK K';try simp only[Act.put,setIfInBounds_toArray,set_cons_zero,set_cons_succ]
     iterate 4 ((first|(refine QT.wpMix_take (.bool false) (by rfl) (by intro w' aa;obtain⟨g1,g2,g3,g4,y4,y5,_⟩:=aa;obtain⟨t0,t1,t2,t3,tf⟩:=row4 g1;obtain⟨u0,u1,u2,uf⟩:=row3 g2;obtain⟨v0,v1,v2,v3,vf⟩:=row4 g3;obtain⟨z0,z1,z2,zf⟩:=row3 g4;go_simp;first|done|rfl|simp) ?_)|(refine QT.wpMix_take _ (by rfl) (by intro w' aa;obtain⟨g1,g2,g3,g4,y4,y5,_⟩:=aa;obtain⟨t0,t1,t2,t3,tf⟩:=row4 g1;obtain⟨u0,u1,u2,uf⟩:=row3 g2;obtain⟨v0,v1,v2,v3,vf⟩:=row4 g3;obtain⟨z0,z1,z2,zf⟩:=row3 g4;go_simp;first|done|rfl|simp) ?_));try simp only[Act.put,setIfInBounds_toArray,set_cons_zero,set_cons_succ])
     have bZ:=rcheck_any a5 k5 _ wV (aG.out.below BV.out) az.out.names_small ba;rw[HQ.out,show checkE (treeD DN)=0 by unfold checkE;rw[if_pos ((tree_iff _).2 az.out.tree)]]at bZ;intro K' hK;rw[if_pos (by rfl)];go_simp;refine bZ.mono ?_;rintro r wX ⟨rfl,b6⟩;simp only[];have BX:=hid (Below.trans BV.out (b6.mono BV.out.size));clear b6;refine hK.out _ _ (ap.out.below (BX.out)) ?_;clear hK K';try simp only[Act.put,setIfInBounds_toArray,set_cons_zero,set_cons_succ]
     refine QT.wpMix_nil ?_;repeat (first|go_skip|go_guarded|go_step|go_upon)
     refine NoPanic.normal ?_;repeat (first|go_skip|go_guarded|go_step|go_upon)
     go_loopw [162] (fun s162 wq=>∃ i:Nat,s162=.int .i64 i/\i<=q/\PrK w1 wq P Q (k+1) DN (k+1) DN (fun k=>False\/(w9.heap.size<=k/\k<wT.heap.size))/\(0<q->∃ g ai,a5=some ⟨g,0,none⟩/\w9.heap.size<=g/\g<wT.heap.size/\wq.heap[g]?=some (.cells ai 45 (0,0))/\q*4<=ai.size)) (fun s162 _=>q-(RowKit.intOf s162).toNat)
     case atStart =>
      refine⟨0,rfl,Nat.zero_le _,aI.out.below BX.out,fun h0=>?_⟩;obtain⟨g5,ai,h1,h2,h3,h4⟩:=cr.out h0;exact⟨g5,ai,h1,h2,(Array.getElem?_eq_some_iff.1 h3).1,(BX.out.block _ (Array.getElem?_eq_some_iff.1 h3).1).trans h3,h4⟩
     case round =>
      obtain⟨i,rfl,hi,bv,a9⟩:=hrel;have bK:=hid bv;have ct:=hid a9;clear bv a9;by_cases hil:i<q
      ·have cM:(i:Int)<q:=by omega
       obtain⟨g5,ai,rfl,bF,bD,al,c8⟩:=ct.out (by omega);obtain⟨cS,aE⟩:∃ v,ai[i*4+1]?=some v:=⟨_,Array.getElem?_eq_getElem (by omega)⟩;have cc:=cell_of_row _ g5 (i*4+1) _ _ _ al;rw[aE]at cc;have cf:=frozen_of_row _ g5 (i*4+1) _ _ al;have bn:=hid al;clear al aE;repeat (first|go_skip|go_guarded|go_step|go_upon)
       refine⟨⟨i+1,by go_num,by omega,bK.out.out (U:=fun k=>k=g5) ((Out.refl (fun k=>k=g5) _).setCell (p:=⟨g5,i*4+1,none⟩) (fun _=>rfl) _) (fun k hk=>⟨.inr (by subst hk;exact⟨bF,bD⟩),by subst hk;have:=P9.out.bel.size;omega⟩),fun _=>⟨g5,_,rfl,bF,bD,row_set (j:=i*4+1) bn.out _,?_⟩⟩,by simp[RowKit.intOf];omega⟩;rw[Array.size_setIfInBounds];exact c8
      ·have cM:¬(i:Int)<q:=by omega
       clear hil;repeat (first|go_skip|go_guarded|go_step|go_upon)
       exact⟨⟨k+1,DN,by go_num,by omega,by omega,bK.out.weak (fun k hk=>absurd hk id),az.out⟩,by simp[RowKit.intOf];omega⟩
   ·have cz:¬(k:Int)<m:=by omega
    clear hlt aw;obtain⟨a7,a8,am,ac⟩:=a2.out.rtrace;have aj:=a2.out.qlt;obtain⟨L,hL⟩:∃ z,D.trace.length=z:=⟨_,rfl⟩;have aU:L<=60:=by have:=a2.out.tlen;omega
    have ag:=hid hL;rw[hL]at am ac;have ay:=hid ac;clear hL ac;repeat (first|go_skip|go_guarded|go_step|go_upon)
    refine wp_region_noPanic ?_;with_reducible refine QT.region_mix (S:=fun w'=>w'.cell? ⟨Q,7,none⟩=some (.slice a7 L a8)) [(true,0),(true,2),(true,3),(true,4),(true,5),(false,1),(false,6)] 7 (by kernel_rfl) (by kernel_rfl) ?_ ?_ ?_
    ·exact fun _ _ _ _ _ h=>h
    ·exact am
    intro _;simp only[QT.pickM,List.filterMap_cons,List.filterMap_nil,List.getElem?_cons_succ,List.getElem?_cons_zero,Option.map_some,List.drop_succ_cons,drop_zero];refine QT.wpMix_take _ (by rfl) (by intro w' aa;go_simp;first|done|rfl|simp) ?_;try simp only[Act.put,setIfInBounds_toArray,set_cons_zero,set_cons_succ]
    refine QT.wpMix_take _ (by rfl) (by intro w' aa;go_simp;first|done|rfl|simp) ?_;try simp only[Act.put,setIfInBounds_toArray,set_cons_zero,set_cons_succ]
    refine QT.wpMix_take _ (by rfl) (by intro w' aa;go_simp;first|done|rfl|simp) ?_;try simp only[Act.put,setIfInBounds_toArray,set_cons_zero,set_cons_succ]
    refine QT.wpMix_take _ (by rfl) (by intro w' aa;go_simp;first|done|rfl|simp) ?_;try simp only[Act.put,setIfInBounds_toArray,set_cons_zero,set_cons_succ]
    refine QT.wpMix_take _ (by rfl) (by intro w' aa;go_simp;first|done|rfl|simp) ?_;try simp only[Act.put,setIfInBounds_toArray,set_cons_zero,set_cons_succ]
    intro K' hK;rw[if_pos (by rfl)];go_simp;refine((a2.out.below ((Below.refl _ _).drew)).dtrace (by omega)).mono ?_;rintro r w6 ⟨v6,rfl,ak,aC⟩;simp only[];have B6:=hid (((Below.refl _ _).drew).trans aC);have ar:=(B6.out.cell (p:=⟨Q,7,none⟩) aj).trans am;refine hK.out _ _ ar ?_;clear hK K';try simp only[Act.put,setIfInBounds_toArray,set_cons_zero,set_cons_succ]
    obtain⟨bs,br,aH,ab⟩:=owns_view ak;rw[ag.out]at aH ab;subst aH
    have CD:=did_any bs a7 br a8 D.trace w6 (fun h0=>by
     rw[ag.out]at h0 ⊢;obtain⟨g,e,h1,_,h2⟩:=ab h0
     exact⟨g,e,h1,h2⟩) (fun h0=>by
     rw[ag.out]at h0 ⊢;obtain⟨g,e,h1,h2⟩:=ay.out h0
     exact⟨g,e,Nat.lt_of_lt_of_le h1 B6.out.size,fun j hj=>(B6.out.cell (p:=⟨g,j,none⟩) h1).trans (h2 j hj)⟩) (by have:=ag.out;omega)
    rw[ag.out]at CD;have aT:=hid CD;clear CD ak aC ab;intro K' hK;rw[if_pos (by rfl)];go_simp;refine aT.out.mono ?_;rintro r w7 ⟨rfl,ax⟩;simp only[];refine hK.out _ _ ((ax.cell (p:=⟨Q,7,none⟩) (Nat.lt_of_lt_of_le aj B6.out.size)).trans ar) ?_;clear hK K';try simp only[Act.put,setIfInBounds_toArray,set_cons_zero,set_cons_succ]
    have B7:=hid (Below.trans B6.out (ax.mono B6.out.size));clear ax am ar;refine QT.wpMix_nil ?_;repeat (first|go_skip|go_guarded|go_step|go_upon)
    refine NoPanic.normal ?_;repeat (first|go_skip|go_guarded|go_step|go_upon)
    go_ret;exact⟨by first|rfl|simp,Below.trans B1.out ((Below.trans a2.out.bel (B7.out.mono a2.out.bel.size)).mono B1.out.size)⟩
 ·have CN:Hid (Calls Tryz.prog 10 #[.slice a0 n c0] w1 fun r w'=>r=.returned (.tuple #[.pointer none,.int .i64 60])/\Below w1.heap.size w1 w'):=hid (by
   have:=dnew_no a0 c0 t w1 aY.out (HW.out.below B1.out) (by simpa using ht);rw[HN.out]at this
   exact this)
  have cN:Hid (treeB t=false):=hid (by simpa using ht);clear ht;repeat (first|go_skip|go_guarded|go_step|go_upon)
  refine CN.out.mono ?_;rintro r w2 ⟨rfl,bN⟩;simp only[];have B2:=hid (Below.trans B1.out (bN.mono B1.out.size))
  have CQ:Hid (Calls Tryz.prog 11 #[.slice a0 n c0] w2 fun r w'=>r=.returned (.tuple #[.pointer none,.int .i64 60])/\Below w2.heap.size w2 w'):=hid (by
   have h6:=HW.out.below B2.out;have:=knew_no w2 a0 c0 t h6.lay cO.out h6.max cN.out;rw[HN.out]at this
   exact this)
  clear bN;repeat (first|go_skip|go_guarded|go_step|go_upon)
  refine CQ.out.mono ?_;rintro r w3 ⟨rfl,bO⟩;simp only[];have B3:=hid (Below.trans B2.out (bO.mono B2.out.size));clear bO;have cL:=hid (fun V=>DG.write_nil V ⟨#[97]⟩ ⟨#[]⟩ 0);have CO:=hid DG.on_nil;have ci:=hid DG.steps_nil;have cC:=hid DG.tree_nil;have c7:=hid DG.trace_nil;have B:=B3
  repeat (first
   | (go_at_call 12;refine OM.onB (cL.out _) B ?_;intro w4 B;simp only[])
   | (go_at_call 13;refine(CO.out _).mono ?_;rintro r w4 ⟨rfl,rfl⟩;simp only[])
   | (go_at_call 14;refine(ci.out _).mono ?_;rintro r w4 ⟨rfl,rfl⟩;simp only[])
   | (go_at_call 15;refine(cC.out _).mono ?_;rintro r w4 ⟨rfl,rfl⟩;simp only[])
   | (go_at_call 16;refine(c7.out _).mono ?_;rintro r w4 ⟨rfl,rfl⟩;simp only[])
   | go_skip|go_guarded|go_step|go_upon)
  go_ret;exact⟨by first|rfl|simp,B.out⟩
end RK
end Go.Proofs.YtkmcjededpamnaaGreatDoor