import Derived.Test.YtkmcjededpamnaaGreatDoorMg18
import Derived.Test.YtkmcjededpamnaaGreatDoorMg19
import Derived.Test.YtkmcjededpamnaaGreatDoorMg12
import Derived.Test.YtkmcjededpamnaaGreatDoorMg2
import Derived.Test.YtkmcjededpamnaaGreatDoorMg3
import Derived.Test.YtkmcjededpamnaaGreatDoorRkWn
import Derived.Test.YtkmcjededpamnaaGreatDoorDkAsk
set_option linter.all false
set_option maxRecDepth 100000
set_option maxHeartbeats 0
namespace Go.Proofs.YtkmcjededpamnaaGreatDoor
open List(set_cons_zero set_cons_succ setIfInBounds_toArray drop_zero)
open Go.RowKit Go.Lib Go.BigFrame
namespace RK
open OM TP TM DP DM FP DG TG TR
structure Box4(W:World)(Q b1 b2 b3 b4:Nat)(A1 A2 A3 A4:Array Value)(off:Bool)(st:Nat):Prop where
 r1:W.heap[b1]?=some (.cells A1 45 (0,0))
 r2:W.heap[b2]?=some (.cells A2 47 (0,0))
 r3:W.heap[b3]?=some (.cells A3 45 (0,0))
 r4:W.heap[b4]?=some (.cells A4 47 (0,0))
 q4:W.cell? ⟨Q,4,none⟩=some (.bool off)
 q5:W.cell? ⟨Q,5,none⟩=some (.int .i64 st)
 lt:Q<W.heap.size
theorem Box4.below{W W':World}{Q b1 b2 b3 b4:Nat}{A1 A2 A3 A4:Array Value}{off:Bool}{st:Nat}(h:Box4 W Q b1 b2 b3 b4 A1 A2 A3 A4 off st)(hb:Below W.heap.size W W'):Box4 W' Q b1 b2 b3 b4 A1 A2 A3 A4 off st :=
 have s:∀ b o,W.heap[b]?=some o->W'.heap[b]?=some o:=fun b o h=>(hb.block b (Array.getElem?_eq_some_iff.1 h).1).trans h
 ⟨s _ _ h.r1,s _ _ h.r2,s _ _ h.r3,s _ _ h.r4,(hb.cell (p:=⟨Q,4,none⟩) h.lt).trans h.q4,(hb.cell (p:=⟨Q,5,none⟩) h.lt).trans h.q5,Nat.lt_of_lt_of_le h.lt hb.size⟩
theorem own_cells{w:World}{base e size:Nat}{n:Nat}{xs:List Value}{ao:Option Addr}{c:Nat}(h:w.ownsRow base e size (.slice ao n c) n xs):0<n->∃ g aj,ao=some ⟨g,0,none⟩/\base<=g/\w.heap[g]?=some (.cells aj e (0,0))/\n*size<=aj.size:=fun h0=>by
 rcases h.2 with ⟨h1,h2⟩|⟨g,cap,aj,h1,h2,h3,h4,_,h5,_⟩
 ·injection h1 with _ h1 _;omega
 ·injection h1 with h1 _ h6;exact⟨g,aj,h1,h2,h3,by rw[h5];exact Nat.mul_le_mul_right _ h4⟩
theorem eq_st7(a b c:Int)(W:World):(Op.equalIn 10000 47 (.agg #[.int .i64 a,.int .i64 b,.int .i64 c]) (.agg #[.int .i64 a,.int .i64 b,.int .i64 c])).run Tryz.prog W=.ok true W:=by
 have:=DG.eq_st2 ⟨a,b,c⟩ ⟨a,b,c⟩ W;rw[decide_eq_true ⟨rfl,rfl,rfl⟩]at this;exact this
theorem eq_nd7(N1 N2:ByteArray)(nk nm:Int)(W:World):(Op.equalIn 10000 45 (.agg #[.string N1,.int .i64 nk,.string N2,.int .i64 nm]) (.agg #[.string N1,.int .i64 nk,.string N2,.int .i64 nm])).run Tryz.prog W=.ok true W:=by
 have:=TR.eq_nd ⟨N1.data.toList,nk,N2.data.toList,nm⟩ ⟨N1.data.toList,nk,N2.data.toList,nm⟩ W;rw[decide_eq_true rfl]at this;unfold ndVal at this;simp only[txt_data]at this;exact this
theorem druns_any(a0 a1:Option Addr)(c0 c1:Nat)(t:List Nd)(os:List Cal)(fs:List Fate)(af:Option Addr)(cf:Nat)(es:List Edit)(vs:List Ev)(au:Option Addr)(cu:Nat)(w:World)(he:NF.Env w)(hw:TW.Wide w a0 c0 t)(hsm:TR.Small t)(hc:LayC w a1 os)(hlo:∀ c∈os,c.path.length<=1048576/\c.dest.length<=1048576)(hcap:os.length<=c1)(hmax:os.length<=maxLen)
  (hf:∀ ad,af=some ad->(0<fs.length->ad.block<w.heap.size)/\∀(j:Nat) (u:Value),(fatesC fs)[j]?=some u->w.cell? (ad.add j)=some u) (hno:af=none->fs.length=0/\cf=0) (hl:fs.length<=1048576) (hu:EdArg w au cu es vs) (hel:es.length<=1048576) (hp:∀ e∈es,e.path.length<=1048576/\TR.Small e.value/\e.value.length<=maxLen) :
  Calls Tryz.prog 3 #[.slice a0 t.length c0,.agg #[.slice af fs.length cf,.slice au es.length cu],.slice a1 os.length c1] w fun r w'=>r=.returned (.bool true)/\Below w.heap.size w w':=by
 have HE:=hid he;have HW:=hid hw;have cL:=hid hsm;have HC:=hid hc;have cb:=hid hlo;have HF:=hid hf;have bP:=hid hno;have bw:=hid hl;have HU:=hid hu;have b8:=hid hp;have bW:=hid hel;have a6:=hu.cap;obtain⟨n,hn⟩:∃ n,t.length=n:=⟨_,rfl⟩;obtain⟨m,hm⟩:∃ m,os.length=m:=⟨_,rfl⟩;obtain⟨nf,bq⟩:∃ n,fs.length=n:=⟨_,rfl⟩;obtain⟨nu,aQ⟩:∃ n,es.length=n:=⟨_,rfl⟩;have HN:=hid hn;have HM:=hid hm;have bE:=hid bq;have bR:=hid aQ;unfold maxLen at hmax;rw[hn,hm,bq,aQ];rw[hm]at hcap hmax;rw[aQ]at hel a6;have cU:(m:Int)<=9223372036854775807:=by omega
 have b0:Below w.heap.size w (w.alloc (.cells #[.slice af nf cf,.slice au nu cu] 26)):=(Below.refl _ _).alloc (Nat.le_refl _) _;have aI:=heap_alloc_new w (.cells #[.slice af nf cf,.slice au nu cu] 26);obtain⟨w0,bf⟩:∃ W,w.alloc (.cells #[.slice af nf cf,.slice au nu cu] 26)=W:=⟨_,rfl⟩;rw[bf]at b0 aI;have CA:=hid (DG.awake_any w0 (he.below b0));have B0:=hid b0;have cI:=hid aI;have bK:Hid (w.heap.size<w0.heap.size):=hid (Array.getElem?_eq_some_iff.1 aI).1;clear he hw hsm hc hlo hf hno hl hu hp b0 aI hn hm bq aQ;go_enter Tryz.func3,Tryz.ntmps3;repeat (first|go_skip|go_guarded|go_step|go_upon)
 try rw[bf]
 clear bf;refine CA.out.mono ?_;rintro r w1 ⟨rfl,aR⟩;simp only[];have B1:Hid (Below w.heap.size w w1):=hid (Below.trans B0.out (aR.mono B0.out.size));have bL:Hid (w.heap.size<w1.heap.size):=hid (Nat.lt_of_lt_of_le bK.out aR.size);have cj:Hid (w1.heap[w.heap.size]?=some (.cells #[.slice af nf cf,.slice au nu cu] 26 (0,0))):=hid ((aR.block _ bK.out).trans cI.out);clear aR;have bi:=hid (HE.out.below B1.out);by_cases ht:treeB t=true
 ·have CN:Hid (Calls Tryz.prog 10 #[.slice a0 n c0] w1 fun r w'=>∃ S P,r=.returned (.tuple #[.pointer (some ⟨P,0,none⟩),.int .i64 0])/\DS w1 w' S P 0 (newD t)):=hid (by
   have:=new_ds bi.out (HW.out.below B1.out) ht;rw[HN.out]at this
   exact this)
  have bG:=hid ((tree_iff t).1 ht);clear ht;repeat (first|go_skip|go_guarded|go_step|go_upon)
  refine CN.out.mono ?_;rintro r w2 ⟨S,P,rfl,h2⟩;simp only[];have D2:=hid h2
  have CQ:Hid (Calls Tryz.prog 11 #[.slice a0 n c0] w2 fun r w'=>∃ T Q,r=.returned (.tuple #[.pointer (some ⟨Q,0,none⟩),.int .i64 0])/\RS w2 w' T Q 0 (newD t)):=hid (by
   have:=knew_any w2 a0 c0 t ((HW.out.below B1.out).below h2.bel).lay bG.out;rw[HN.out]at this
   exact this)
  clear h2;repeat (first|go_skip|go_guarded|go_step|go_upon)
  refine CQ.out.mono ?_;rintro r w3 ⟨T,Q,rfl,h3⟩;simp only[];have P3:=hid (PrK.start D2.out h3);have bI:Hid (w3.heap[w.heap.size]?=some (.cells #[.slice af nf cf,.slice au nu cu] 26 (0,0))):=hid ((P3.out.bel.block _ bL.out).trans cj.out);clear h3;obtain⟨y0,y1,yf⟩:=row2 bI.out
  have bC:∀ ad,af=some ad->(0<fs.length->ad.block<w1.heap.size)/\∀(j:Nat) (u:Value),(fatesC fs)[j]?=some u->w1.cell? (ad.add j)=some u:=fun ad ha=>⟨fun h0=>Nat.lt_of_lt_of_le ((HF.out ad ha).1 h0) B1.out.size,fun j u hj=>((by
   have cH:(ad.add j).block=ad.block:=by unfold Addr.add;split<;>rfl
   have h0:0<fs.length:=by have:=(List.getElem?_eq_some_iff.1 hj).1;rw[fates_len]at this;omega
   exact(B1.out.cell (p:=ad.add j) (by rw[cH];exact(HF.out ad ha).1 h0)).trans ((HF.out ad ha).2 j u hj)))⟩
  have bo:=hid bC;have bJ:∀ e∈es,e.path.length<=maxLen:=fun e he=>by have:=(b8.out e he).1;unfold maxLen;omega
  have bO:=hid bJ
  have CB:Hid (Calls Tryz.prog 17 #[.pointer (some ⟨P,0,none⟩),.slice af nf cf,.slice au nu cu] w3 fun r W'=>r=.returned (.tuple #[])/\PrK w1 W' P Q 0 (bootD (newD t) fs es) 0 (newD t) (fun k=>k<w1.heap.size)/\∀ k,k<w1.heap.size->W'.heap[k]?=w3.heap[k]?):=hid (by
   have:=P3.out.left (fun S hd=>hd.bootE fs af cf bo.out bP.out bw.out es vs au cu (HU.out.below B1.out) bW.out bO.out);rw[bE.out,bR.out]at this
   exact this)
  clear bC bJ;repeat (first|go_skip|go_guarded|go_step|go_upon)
  refine CB.out.mono ?_;rintro r w4 ⟨rfl,h4,bH⟩;simp only[];have P4:=hid h4;have c6:=hid ((bH _ bL.out).trans bI.out);clear h4 bH y0 y1 yf;obtain⟨y0,y1,yf⟩:=row2 c6.out
  have CK:Hid (Calls Tryz.prog 18 #[.pointer (some ⟨Q,0,none⟩),.slice af nf cf,.slice au nu cu] w4 fun r W'=>r=.returned (.tuple #[])/\PrK w1 W' P Q 0 (bootD (newD t) fs es) 0 (bootD (newD t) fs es) (fun k=>k<w1.heap.size)/\∀ k,k<w1.heap.size->W'.heap[k]?=w4.heap[k]?):=hid (by
   have:=P4.out.right (fun T hr=>kboot_any w1 w4 T Q 0 (newD t) hr fs af cf es vs au cu ⟨fun ad ha=>(bo.out ad ha).2,fun ad ha=>(bo.out ad ha).1,fun h=>(bP.out h).1,bw.out⟩ (HU.out.below B1.out) bW.out bO.out);rw[bE.out,bR.out]at this
   exact this)
  repeat (first|go_skip|go_guarded|go_step|go_upon)
  refine CK.out.mono ?_;rintro r w5 ⟨rfl,h5,-⟩;simp only[];have P5:=hid (h5.weak (L:=fun _=>False) (fun k hk=>absurd hk id));have V5:Hid (RK.V (bootD (newD t) fs es)):=hid ((RK.V.new bG.out).boot fs b8.out);clear h5 y0 y1 yf;repeat (first|go_skip|go_guarded|go_step|go_upon)
  go_loopw [86] (fun s86 wr=>∃(k:Nat) (D:Dk),s86=.int .i64 k/\k<=m/\k<=60/\PrK w1 wr P Q k D k D (fun _=>False)/\RK.V D) (fun s86 _=>m-(RowKit.intOf s86).toNat)
  case atStart=>exact⟨0,_,rfl,Nat.zero_le _,Nat.zero_le _,P5.out,V5.out⟩
  case round =>
   obtain⟨k,D,rfl,hk,ct,aw,bY⟩:=hrel;have a2:=hid aw;have aW:=hid bY;clear bY;by_cases hlt:k<m
   ·have cz:(k:Int)<m:=by omega
    obtain⟨g,o,rfl,hg,ai⟩:=HC.out (by rw[HM.out];omega);obtain⟨c,aO⟩:∃ c,os[k]?=some c:=⟨os[k]'(by rw[HM.out];exact hlt),List.getElem?_eq_getElem _⟩;have bk:=cb.out c (List.mem_of_getElem? aO);have aN:=hid bk;obtain⟨e0,e1,e2,e3,e4⟩:=ai k c aO;have aF:g<w1.heap.size:=Nat.lt_of_lt_of_le hg B1.out.size;have sC:∀ j,wr.cell? ⟨g,j,none⟩=w.cell? ⟨g,j,none⟩:=fun j=>(aw.bel.cell (p:=⟨g,j,none⟩) aF).trans (B1.out.cell (p:=⟨g,j,none⟩) hg);rw[<- sC]at e0 e1 e2 e3 e4;have cW:g<wr.heap.size:=Nat.lt_of_lt_of_le aF aw.bel.size;obtain⟨X,hX,_⟩:=txt_of c.path;obtain⟨Y,hY,_⟩:=txt_of c.dest;obtain⟨V,hV,_⟩:=txt_of c.data;obtain⟨wh,aM⟩:∃ z,c.what=z:=⟨_,rfl⟩;obtain⟨md,aS⟩:∃ z,c.mode=z:=⟨_,rfl⟩;rw[hX]at e1;rw[hY]at e2;rw[hV]at e3;rw[aM]at e0;rw[aS]at e4;have aJ:calV c=.agg #[.int .i64 wh,.string X,.string Y,.string V,.int .i64 md]:=by unfold calV;rw[aM,hX,hY,hV,aS]
    have b9:Below wr.heap.size wr (wr.alloc (.cells #[.int .i64 wh,.string X,.string Y,.string V,.int .i64 md] 43)):=(Below.refl _ _).alloc (Nat.le_refl _) _;have ap:=hid (aw.grow b9);have R9:=hid (heap_alloc_new wr (.cells #[.int .i64 wh,.string X,.string Y,.string V,.int .i64 md] 43));have Z9:Hid (wr.heap.size<(wr.alloc (.cells #[.int .i64 wh,.string X,.string Y,.string V,.int .i64 md] 43)).heap.size):=hid (Array.getElem?_eq_some_iff.1 R9.out).1;clear b9;by_cases h60:k=60
    ·have cr:((k:Int)==60)=true:=by simp[h60]
     clear ai aO sC hX hY hV aM aS aJ aw bk h60;obtain⟨aG,a8,am,ab⟩:=ap.out.rtrace;have ah:=ap.out.qlt;obtain⟨L,hL⟩:∃ z,D.trace.length=z:=⟨_,rfl⟩;have bd:L<=60:=by have:=ap.out.tlen;omega
     have ag:=hid hL;rw[hL]at am ab;have ar:=hid ab;clear hL ab;repeat (first|go_skip|go_guarded|go_step|go_upon)
     refine wp_region_noPanic ?_;with_reducible refine QT.region_mix (S:=fun w'=>w'.cell? ⟨Q,7,none⟩=some (.slice aG L a8)) [(true,0),(true,2),(true,3),(true,4),(true,5),(false,1),(false,6)] 7 (by kernel_rfl) (by kernel_rfl) ?_ ?_ ?_
     ·exact fun _ _ _ _ _ h=>h
     ·exact am
     intro _;simp only[QT.pickM,List.filterMap_cons,List.filterMap_nil,List.getElem?_cons_succ,List.getElem?_cons_zero,Option.map_some,List.drop_succ_cons,drop_zero];refine QT.wpMix_take _ (by rfl) (by intro w' aa;go_simp;first|done|rfl|simp) ?_;try simp only[Act.put,setIfInBounds_toArray,set_cons_zero,set_cons_succ]
     refine QT.wpMix_take _ (by rfl) (by intro w' aa;go_simp;first|done|rfl|simp) ?_;try simp only[Act.put,setIfInBounds_toArray,set_cons_zero,set_cons_succ]
     refine QT.wpMix_take _ (by rfl) (by intro w' aa;go_simp;first|done|rfl|simp) ?_;try simp only[Act.put,setIfInBounds_toArray,set_cons_zero,set_cons_succ]
     refine QT.wpMix_take _ (by rfl) (by intro w' aa;go_simp;first|done|rfl|simp) ?_;try simp only[Act.put,setIfInBounds_toArray,set_cons_zero,set_cons_succ]
     refine QT.wpMix_take _ (by rfl) (by intro w' aa;go_simp;first|done|rfl|simp) ?_;try simp only[Act.put,setIfInBounds_toArray,set_cons_zero,set_cons_succ]
     intro K' hK;rw[if_pos (by rfl)];go_simp;refine((ap.out.below ((Below.refl _ _).drew)).dtrace (by omega)).mono ?_;rintro r w6 ⟨v6,rfl,ak,aE⟩;simp only[];have B6:=hid (((Below.refl _ _).drew).trans aE);have ax:=(B6.out.cell (p:=⟨Q,7,none⟩) ah).trans am;refine hK.out _ _ ax ?_;clear hK K';try simp only[Act.put,setIfInBounds_toArray,set_cons_zero,set_cons_succ]
     obtain⟨aU,aZ,a4,ac⟩:=owns_view ak;rw[ag.out]at a4 ac;subst a4
     have CD:=did_any aU aG aZ a8 D.trace w6 (fun h0=>by
      rw[ag.out]at h0 ⊢;obtain⟨g,e,h1,_,h2⟩:=ac h0
      exact⟨g,e,h1,h2⟩) (fun h0=>by
      rw[ag.out]at h0 ⊢;obtain⟨g,e,h1,h2⟩:=ar.out h0
      exact⟨g,e,Nat.lt_of_lt_of_le h1 B6.out.size,fun j hj=>(B6.out.cell (p:=⟨g,j,none⟩) h1).trans (h2 j hj)⟩) (by have:=ag.out;omega)
     rw[ag.out]at CD;have br:=hid CD;clear CD ak aE ac;intro K' hK;rw[if_pos (by rfl)];go_simp;refine br.out.mono ?_;rintro r w7 ⟨rfl,ay⟩;simp only[];refine hK.out _ _ ((ay.cell (p:=⟨Q,7,none⟩) (Nat.lt_of_lt_of_le ah B6.out.size)).trans ax) ?_;clear hK K';try simp only[Act.put,setIfInBounds_toArray,set_cons_zero,set_cons_succ]
     have B7:=hid (Below.trans B6.out (ay.mono B6.out.size));clear ay am ax;refine QT.wpMix_nil ?_;repeat (first|go_skip|go_guarded|go_step|go_upon)
     refine NoPanic.normal ?_;repeat (first|go_skip|go_guarded|go_step|go_upon)
     go_ret;exact⟨by first|rfl|simp,Below.trans B1.out ((Below.trans ap.out.bel (B7.out.mono ap.out.bel.size)).mono B1.out.size)⟩
    ·have cr:((k:Int)==60)=false:=by simp;omega
     have c9:k<60:=by omega
     clear h60;obtain⟨⟨DN,⟨AE,⟨np,nk,nd,nm⟩,⟨s1,s2,s3⟩,TX⟩⟩,aH⟩:∃ z,askD D c=z:=⟨_,rfl⟩;obtain⟨N1,bt,_⟩:=txt_of np;obtain⟨N2,bm,_⟩:=txt_of nd
     have cy:Hid (∀ W K,PrK w1 W P Q k D k D K->Calls Tryz.prog 19 #[.pointer (some ⟨P,0,none⟩),.agg #[.int .i64 wh,.string X,.string Y,.string V,.int .i64 md]] W fun r W'=>∃ v,(r=.returned (.tuple #[.int .i64 AE,.agg #[.string N1,.int .i64 nk,.string N2,.int .i64 nm],.agg #[.int .i64 s1,.int .i64 s2,.int .i64 s3],v])/\W'.ownsRow W.heap.size 9 1 v TX.length (TX.map txt))/\PrK w1 W' P Q (k+1) DN k D (fun j=>K j\/v.ownBlock=some j)/\(∀ g,v.ownBlock=some g->W.heap.size<=g)/\∀ j,K j->W'.heap[j]?=W.heap[j]?):=hid (fun W K hW=>by
      refine hW.leftN (R:=fun v r W'=>r=.returned (.tuple #[.int .i64 AE,.agg #[.string N1,.int .i64 nk,.string N2,.int .i64 nm],.agg #[.int .i64 s1,.int .i64 s2,.int .i64 s3],v])/\W'.ownsRow W.heap.size 9 1 v TX.length (TX.map txt)) (fun S hd=>?_);have:=DG.ask_any hd bi.out (by omega) c (by have:=aN.out.1;unfold maxLen;omega) (by have:=aN.out.2;unfold maxLen;omega);rw[aH,aJ]at this;refine this.mono ?_;rintro r W' ⟨v,hr,ho,hA⟩;unfold ndVal stampVal at hr;simp only at hr ho;rw[bt,bm]at hr
      exact⟨v,⟨hr,ho⟩,fun g hg=>(ho.lt g hg),hA⟩)
     have cG:Hid (∀ W K,PrK w1 W P Q (k+1) DN k D K->Calls Tryz.prog 20 #[.pointer (some ⟨Q,0,none⟩),.agg #[.int .i64 wh,.string X,.string Y,.string V,.int .i64 md]] W fun r W'=>∃ v,(r=.returned (.tuple #[.int .i64 AE,.agg #[.string N1,.int .i64 nk,.string N2,.int .i64 nm],.agg #[.int .i64 s1,.int .i64 s2,.int .i64 s3],v])/\W'.ownsRow W.heap.size 9 1 v TX.length (TX.map txt))/\PrK w1 W' P Q (k+1) DN (k+1) DN (fun j=>K j\/v.ownBlock=some j)/\(∀ g,v.ownBlock=some g->W.heap.size<=g)/\∀ j,K j->W'.heap[j]?=W.heap[j]?):=hid (fun W K hW=>by
      refine hW.rightN (R:=fun v r W'=>r=.returned (.tuple #[.int .i64 AE,.agg #[.string N1,.int .i64 nk,.string N2,.int .i64 nm],.agg #[.int .i64 s1,.int .i64 s2,.int .i64 s3],v])/\W'.ownsRow W.heap.size 9 1 v TX.length (TX.map txt)) (fun S hd=>?_);have:=want_any hd aW.out (by omega) c aN.out.1 aN.out.2;rw[aH,aJ]at this;refine this.mono ?_;rintro r W' ⟨v,hr,ho,hA⟩;unfold ndVal stampVal at hr;simp only at hr ho;rw[bt,bm]at hr
      exact⟨v,⟨hr,ho⟩,fun g hg=>(ho.lt g hg),hA⟩)
     have az:Hid (RK.V DN):=hid (by
      have:=aW.out.ask c;rw[aH]at this
      exact this)
     have cg:Hid (TX.length<=1000):=hid (by
      have:=texts_len aW.out c;rw[aH]at this
      exact this)
     clear ai aO sC hX hY hV aM aS aJ aw bk aH bt bm;obtain⟨x0,x1,x2,x3,x4,xf⟩:=DG.row5c R9.out;repeat (first|go_skip|go_guarded|go_step|go_upon)
     refine(cy.out _ _ ap.out).mono ?_;rintro r w6 ⟨v,⟨rfl,ak⟩,h6,cP,bT⟩;obtain⟨av,cv,hv,_⟩:=owns_view ak;obtain⟨nv,bp⟩:∃ n,TX.length=n:=⟨_,rfl⟩;have aY:=hid bp;rw[bp]at hv ak;subst hv;simp only[];have c5:=hid ak;have P6:=hid h6;have ba:=hid ((bT _ (.inr ⟨Nat.le_refl _,Z9.out⟩)).trans R9.out);clear ak h6 cP bT bp x0 x1 x2 x3 x4 xf;obtain⟨x0,x1,x2,x3,x4,xf⟩:=DG.row5c ba.out;have cD:wr.heap.size<w6.heap.size:=(Array.getElem?_eq_some_iff.1 ba.out).1;have b0:Below w6.heap.size w6 ((w6.alloc (.cells #[.string N1,.int .i64 nk,.string N2,.int .i64 nm] 45)).alloc (.cells #[.int .i64 s1,.int .i64 s2,.int .i64 s3] 47)):=((Below.refl _ _).alloc (Nat.le_refl _) _).alloc (by simp) _;have aX:((w6.alloc (.cells #[.string N1,.int .i64 nk,.string N2,.int .i64 nm] 45)).alloc (.cells #[.int .i64 s1,.int .i64 s2,.int .i64 s3] 47)).heap[w6.heap.size]?=some (.cells #[.string N1,.int .i64 nk,.string N2,.int .i64 nm] 45 (0,0)):=RK.old_row (heap_alloc_new w6 _)
     have bg:((w6.alloc (.cells #[.string N1,.int .i64 nk,.string N2,.int .i64 nm] 45)).alloc (.cells #[.int .i64 s1,.int .i64 s2,.int .i64 s3] 47)).heap[w6.heap.size+1]?=some (.cells #[.int .i64 s1,.int .i64 s2,.int .i64 s3] 47 (0,0)):=by
      have:=heap_alloc_new (w6.alloc (.cells #[.string N1,.int .i64 nk,.string N2,.int .i64 nm] 45)) (.cells #[.int .i64 s1,.int .i64 s2,.int .i64 s3] 47);rw[World.size_alloc]at this;exact this
     have aV:((w6.alloc (.cells #[.string N1,.int .i64 nk,.string N2,.int .i64 nm] 45)).alloc (.cells #[.int .i64 s1,.int .i64 s2,.int .i64 s3] 47)).heap.size=w6.heap.size+2:=by simp
     have bn:=(b0.block _ cD).trans ba.out;have P7:=hid (P6.out.grow b0);have ca:=hid (owns_below c5.out b0);clear x0 x1 x2 x3 x4 xf;obtain⟨w7,bc⟩:∃ z,((w6.alloc (.cells #[.string N1,.int .i64 nk,.string N2,.int .i64 nm] 45)).alloc (.cells #[.int .i64 s1,.int .i64 s2,.int .i64 s3] 47))=z:=⟨_,rfl⟩;rw[bc]at P7 ca bn aX bg aV;have cK:=hid bn;have c8:=hid aX;have cp:=hid bg;have cF:=hid aV;clear bn aX bg aV b0;repeat (first|go_skip|go_guarded|go_step|go_upon)
     try rw[bc]
     obtain⟨x0,x1,x2,x3,x4,xf⟩:=DG.row5c cK.out;clear bc;simp only[x0,x1,x2,x3,x4,Result.andThen];go_simp;repeat (first|go_skip|go_guarded|go_step|go_upon)
     clear x0 x1 x2 x3 x4 xf;refine(cG.out _ _ P7.out).mono ?_;rintro r w8 ⟨v2,⟨rfl,aL⟩,h8,cd,aK⟩;obtain⟨cT,cV,bA,_⟩:=owns_view aL;rw[aY.out]at bA aL;subst bA;simp only[];have cS:=ap.out;have ck:=hid aL;have P8:=hid h8;have cR:=cF.out;have co:=hid ((aK w6.heap.size (.inr ⟨Nat.le_refl _,by omega⟩)).trans c8.out);have ci:=hid ((aK (w6.heap.size+1) (.inr ⟨by omega,by omega⟩)).trans cp.out);have aT:=hid (own_same ca.out (fun g hg=>aK g (.inl (.inr hg))));clear aL h8 cd aK;have b1:Below w8.heap.size w8 ((w8.alloc (.cells #[.string N1,.int .i64 nk,.string N2,.int .i64 nm] 45)).alloc (.cells #[.int .i64 s1,.int .i64 s2,.int .i64 s3] 47)):=((Below.refl _ _).alloc (Nat.le_refl _) _).alloc (by simp) _;have bh:((w8.alloc (.cells #[.string N1,.int .i64 nk,.string N2,.int .i64 nm] 45)).alloc (.cells #[.int .i64 s1,.int .i64 s2,.int .i64 s3] 47)).heap[w8.heap.size]?=some (.cells #[.string N1,.int .i64 nk,.string N2,.int .i64 nm] 45 (0,0)):=RK.old_row (heap_alloc_new w8 _)
     have bs:((w8.alloc (.cells #[.string N1,.int .i64 nk,.string N2,.int .i64 nm] 45)).alloc (.cells #[.int .i64 s1,.int .i64 s2,.int .i64 s3] 47)).heap[w8.heap.size+1]?=some (.cells #[.int .i64 s1,.int .i64 s2,.int .i64 s3] 47 (0,0)):=by
      have:=heap_alloc_new (w8.alloc (.cells #[.string N1,.int .i64 nk,.string N2,.int .i64 nm] 45)) (.cells #[.int .i64 s1,.int .i64 s2,.int .i64 s3] 47);rw[World.size_alloc]at this;exact this
     have bU:((w8.alloc (.cells #[.string N1,.int .i64 nk,.string N2,.int .i64 nm] 45)).alloc (.cells #[.int .i64 s1,.int .i64 s2,.int .i64 s3] 47)).heap.size=w8.heap.size+2:=by simp
     have P9:=hid ((P8.out.weak (L:=fun _=>False) (fun k hk=>absurd hk id)).below b1);have bu:=hid (owns_below ck.out b1);have a9:=hid (owns_below aT.out b1);have bv:=hid (RK.old_row (o:=.cells #[.int .i64 s1,.int .i64 s2,.int .i64 s3] 47) (RK.old_row (o:=.cells #[.string N1,.int .i64 nk,.string N2,.int .i64 nm] 45) co.out));have bB:=hid (RK.old_row (o:=.cells #[.int .i64 s1,.int .i64 s2,.int .i64 s3] 47) (RK.old_row (o:=.cells #[.string N1,.int .i64 nk,.string N2,.int .i64 nm] 45) ci.out));obtain⟨w9,bl⟩:∃ z,((w8.alloc (.cells #[.string N1,.int .i64 nk,.string N2,.int .i64 nm] 45)).alloc (.cells #[.int .i64 s1,.int .i64 s2,.int .i64 s3] 47))=z:=⟨_,rfl⟩;rw[bl]at P9 bu a9 bv bB bh bs bU;have cQ:=hid P9.out.dtree;have cx:Hid (Box4 w9 Q w6.heap.size (w6.heap.size+1) w8.heap.size (w8.heap.size+1) #[.string N1,.int .i64 nk,.string N2,.int .i64 nm] #[.int .i64 s1,.int .i64 s2,.int .i64 s3] #[.string N1,.int .i64 nk,.string N2,.int .i64 nm] #[.int .i64 s1,.int .i64 s2,.int .i64 s3] DN.off DN.trace.length):=hid ⟨bv.out,bB.out,bh,bs,P9.out.qcells.1,P9.out.qcells.2,P9.out.qlt⟩;clear bh bs bU b1;repeat (first|go_skip|go_guarded|go_step|go_upon)
     try rw[bl]
     clear bl;refine cQ.out.mono ?_;rintro r wT ⟨v5,rfl,o5,b5⟩;simp only[];obtain⟨a5,k5,bX,aB⟩:=lay_own o5;obtain⟨q,hq⟩:∃ z,(treeD DN).length=z:=⟨_,rfl⟩;have HQ:=hid hq;have cZ:q<=1000:=by have:=az.out.tree.len;omega
     rw[hq]at bX o5;subst bX;have aD:=hid aB;have c7:=hid (own_cells o5);have aP:=hid (P9.out.grow b5);have aq:=hid (cx.out.below b5);have cB:=hid (owns_below a9.out b5);have cN:=hid (owns_below bu.out b5);clear o5 b5 aB hq;repeat (first|go_skip|go_guarded|go_step|go_upon)
     refine wp_region_noPanic ?_;with_reducible refine QT.region_mix (S:=fun w'=>Box4 w' Q w6.heap.size (w6.heap.size+1) w8.heap.size (w8.heap.size+1) #[.string N1,.int .i64 nk,.string N2,.int .i64 nm] #[.int .i64 s1,.int .i64 s2,.int .i64 s3] #[.string N1,.int .i64 nk,.string N2,.int .i64 nm] #[.int .i64 s1,.int .i64 s2,.int .i64 s3] DN.off DN.trace.length) [(true,0),(true,1),(true,2),(true,3),(true,4),(true,5),(true,6),(true,7),(true,8),(true,9),(true,10),(true,11),(true,12),(true,13),(true,14),(true,15),(false,16),(true,17),(true,18),(true,19),(true,20),(true,22),(true,23),(true,24),(true,25),(false,21),(true,26),(true,27),(true,28),(true,29),(true,31),(true,32),(true,33),(true,34),(false,30),(true,35),(true,36),(true,37),(true,38),(true,39),(false,40),(false,41),(true,42),(true,43),(true,44),(true,45),(false,46)] 47 (by kernel_rfl) (by kernel_rfl) ?_ ?_ ?_
     ·exact fun _ _ _ _ _ h=>h
     ·exact aq.out.below (Below.refl _ _).drew
     intro _;simp only[QT.pickM,List.filterMap_cons,List.filterMap_nil,List.getElem?_cons_succ,List.getElem?_cons_zero,Option.map_some,List.drop_succ_cons,drop_zero];have qn:=eq_nd7 N1 N2 nk nm;have qs:=eq_st7 s1 s2 s3;obtain⟨ob,b7⟩:∃ b,DN.off=b:=⟨_,rfl⟩;obtain⟨L,hL⟩:∃ b,DN.trace.length=b:=⟨_,rfl⟩;have cX:((!ob)==ob)=false:=by cases ob<;>rfl
     have cw:=hid b7;have ag:=hid hL;rw[b7,hL]at aq ⊢;iterate 16 ((first|(refine QT.wpMix_take (.bool false) (by rfl) (by intro w' aa;obtain⟨g1,g2,g3,g4,y4,y5,_⟩:=aa;obtain⟨t0,t1,t2,t3,tf⟩:=row4 g1;obtain⟨u0,u1,u2,uf⟩:=row3 g2;obtain⟨v0,v1,v2,v3,vf⟩:=row4 g3;obtain⟨z0,z1,z2,zf⟩:=row3 g4;go_simp;first|done|rfl|simp) ?_)|(refine QT.wpMix_take _ (by rfl) (by intro w' aa;obtain⟨g1,g2,g3,g4,y4,y5,_⟩:=aa;obtain⟨t0,t1,t2,t3,tf⟩:=row4 g1;obtain⟨u0,u1,u2,uf⟩:=row3 g2;obtain⟨v0,v1,v2,v3,vf⟩:=row4 g3;obtain⟨z0,z1,z2,zf⟩:=row3 g4;go_simp;first|done|rfl|simp) ?_));try simp only[Act.put,setIfInBounds_toArray,set_cons_zero,set_cons_succ])
     intro K' hK;rw[if_pos (by rfl)];go_simp;refine(rtexts_own _ _ TX _ _ _ (owns_below (by rw[aY.out];exact cB.out) (Below.refl _ _).drew) (owns_below (by rw[aY.out];exact cN.out) (Below.refl _ _).drew) (by have:=cg.out;omega)).mono ?_;rintro r wS ⟨rfl,bS⟩;simp only[];have BS:=hid ((Below.refl _ _).drew.trans bS);clear bS;refine hK.out _ _ (aq.out.below (BS.out)) ?_;clear hK K';try simp only[Act.put,setIfInBounds_toArray,set_cons_zero,set_cons_succ]
     iterate 8 ((first|(refine QT.wpMix_take (.bool false) (by rfl) (by intro w' aa;obtain⟨g1,g2,g3,g4,y4,y5,_⟩:=aa;obtain⟨t0,t1,t2,t3,tf⟩:=row4 g1;obtain⟨u0,u1,u2,uf⟩:=row3 g2;obtain⟨v0,v1,v2,v3,vf⟩:=row4 g3;obtain⟨z0,z1,z2,zf⟩:=row3 g4;go_simp;first|done|rfl|simp) ?_)|(refine QT.wpMix_take _ (by rfl) (by intro w' aa;obtain⟨g1,g2,g3,g4,y4,y5,_⟩:=aa;obtain⟨t0,t1,t2,t3,tf⟩:=row4 g1;obtain⟨u0,u1,u2,uf⟩:=row3 g2;obtain⟨v0,v1,v2,v3,vf⟩:=row4 g3;obtain⟨z0,z1,z2,zf⟩:=row3 g4;go_simp;first|done|rfl|simp) ?_));try simp only[Act.put,setIfInBounds_toArray,set_cons_zero,set_cons_succ])
     intro K' hK;rw[if_pos (by rfl)];go_simp;refine((aP.out.below BS.out).don).mono ?_;rintro r wU ⟨rfl,rfl⟩;simp only[];rw[cw.out];refine hK.out _ _ (aq.out.below (BS.out)) ?_;clear hK K';try simp only[Act.put,setIfInBounds_toArray,set_cons_zero,set_cons_succ]
     iterate 8 ((first|(refine QT.wpMix_take (.bool false) (by rfl) (by intro w' aa;obtain⟨g1,g2,g3,g4,y4,y5,_⟩:=aa;obtain⟨t0,t1,t2,t3,tf⟩:=row4 g1;obtain⟨u0,u1,u2,uf⟩:=row3 g2;obtain⟨v0,v1,v2,v3,vf⟩:=row4 g3;obtain⟨z0,z1,z2,zf⟩:=row3 g4;go_simp;first|done|rfl|simp) ?_)|(refine QT.wpMix_take _ (by rfl) (by intro w' aa;obtain⟨g1,g2,g3,g4,y4,y5,_⟩:=aa;obtain⟨t0,t1,t2,t3,tf⟩:=row4 g1;obtain⟨u0,u1,u2,uf⟩:=row3 g2;obtain⟨v0,v1,v2,v3,vf⟩:=row4 g3;obtain⟨z0,z1,z2,zf⟩:=row3 g4;go_simp;first|done|rfl|simp) ?_));try simp only[Act.put,setIfInBounds_toArray,set_cons_zero,set_cons_succ])
     intro K' hK;rw[if_pos (by rfl)];go_simp;refine((aP.out.below BS.out).dsteps).mono ?_;rintro r wU ⟨rfl,rfl⟩;simp only[];rw[ag.out];refine hK.out _ _ (aq.out.below (BS.out)) ?_;clear hK K';try simp only[Act.put,setIfInBounds_toArray,set_cons_zero,set_cons_succ]
     iterate 5 ((first|(refine QT.wpMix_take (.bool false) (by rfl) (by intro w' aa;obtain⟨g1,g2,g3,g4,y4,y5,_⟩:=aa;obtain⟨t0,t1,t2,t3,tf⟩:=row4 g1;obtain⟨u0,u1,u2,uf⟩:=row3 g2;obtain⟨v0,v1,v2,v3,vf⟩:=row4 g3;obtain⟨z0,z1,z2,zf⟩:=row3 g4;go_simp;first|done|rfl|simp) ?_)|(refine QT.wpMix_take _ (by rfl) (by intro w' aa;obtain⟨g1,g2,g3,g4,y4,y5,_⟩:=aa;obtain⟨t0,t1,t2,t3,tf⟩:=row4 g1;obtain⟨u0,u1,u2,uf⟩:=row3 g2;obtain⟨v0,v1,v2,v3,vf⟩:=row4 g3;obtain⟨z0,z1,z2,zf⟩:=row3 g4;go_simp;first|done|rfl|simp) ?_));try simp only[Act.put,setIfInBounds_toArray,set_cons_zero,set_cons_succ])
     intro K' hK;rw[if_pos (by rfl)];go_simp;refine((aP.out.below BS.out).ktree az.out).mono ?_;rintro r wU ⟨v3,rfl,o3,b3⟩;simp only[];have BU:=hid (Below.trans BS.out (b3.mono BS.out.size));obtain⟨a3,k3,bV,a7⟩:=lay_own o3;rw[HQ.out]at bV;subst bV;have be:=hid a7;clear o3 b3 a7;refine hK.out _ _ (aq.out.below (BU.out)) ?_;clear hK K';try simp only[Act.put,setIfInBounds_toArray,set_cons_zero,set_cons_succ]
     have bb:(treeD DN).length<=maxLen:=by have:=az.out.tree.len;unfold maxLen;omega
     have bM:=rsame_any a5 a3 k5 k3 _ _ wU (aD.out.below BU.out) be.out bb bb;rw[HQ.out]at bM;intro K' hK;rw[if_pos (by rfl)];go_simp;refine bM.mono ?_;rintro r wV ⟨rfl,b4⟩;simp only[];have BV:=hid (Below.trans BU.out (b4.mono BU.out.size));clear b4;try rw[show decide (treeD DN=treeD DN)=true by simp]
     refine hK.out _ _ (aq.out.below (BV.out)) ?_;clear hK K';try simp only[Act.put,setIfInBounds_toArray,set_cons_zero,set_cons_succ]
     iterate 4 ((first|(refine QT.wpMix_take (.bool false) (by rfl) (by intro w' aa;obtain⟨g1,g2,g3,g4,y4,y5,_⟩:=aa;obtain⟨t0,t1,t2,t3,tf⟩:=row4 g1;obtain⟨u0,u1,u2,uf⟩:=row3 g2;obtain⟨v0,v1,v2,v3,vf⟩:=row4 g3;obtain⟨z0,z1,z2,zf⟩:=row3 g4;go_simp;first|done|rfl|simp) ?_)|(refine QT.wpMix_take _ (by rfl) (by intro w' aa;obtain⟨g1,g2,g3,g4,y4,y5,_⟩:=aa;obtain⟨t0,t1,t2,t3,tf⟩:=row4 g1;obtain⟨u0,u1,u2,uf⟩:=row3 g2;obtain⟨v0,v1,v2,v3,vf⟩:=row4 g3;obtain⟨z0,z1,z2,zf⟩:=row3 g4;go_simp;first|done|rfl|simp) ?_));try simp only[Act.put,setIfInBounds_toArray,set_cons_zero,set_cons_succ])
     have bF:=rcheck_any a5 k5 _ wV (aD.out.below BV.out) az.out.names_small bb;rw[HQ.out,show checkE (treeD DN)=0 by unfold checkE;rw[if_pos ((tree_iff _).2 az.out.tree)]]at bF;intro K' hK;rw[if_pos (by rfl)];go_simp;refine bF.mono ?_;rintro r wX ⟨rfl,b6⟩;simp only[];have BX:=hid (Below.trans BV.out (b6.mono BV.out.size));clear b6;refine hK.out _ _ (aq.out.below (BX.out)) ?_;clear hK K';try simp only[Act.put,setIfInBounds_toArray,set_cons_zero,set_cons_succ]
     refine QT.wpMix_nil ?_;repeat (first|go_skip|go_guarded|go_step|go_upon)
     refine NoPanic.normal ?_;repeat (first|go_skip|go_guarded|go_step|go_upon)
     go_loopw [162] (fun s162 wq=>∃ i:Nat,s162=.int .i64 i/\i<=q/\PrK w1 wq P Q (k+1) DN (k+1) DN (fun k=>False\/(w9.heap.size<=k/\k<wT.heap.size))/\(0<q->∃ g aj,a5=some ⟨g,0,none⟩/\w9.heap.size<=g/\g<wT.heap.size/\wq.heap[g]?=some (.cells aj 45 (0,0))/\q*4<=aj.size)) (fun s162 _=>q-(RowKit.intOf s162).toNat)
     case atStart =>
      refine⟨0,rfl,Nat.zero_le _,aP.out.below BX.out,fun h0=>?_⟩;obtain⟨g5,aj,h1,h2,h3,h4⟩:=c7.out h0;exact⟨g5,aj,h1,h2,(Array.getElem?_eq_some_iff.1 h3).1,(BX.out.block _ (Array.getElem?_eq_some_iff.1 h3).1).trans h3,h4⟩
     case round =>
      obtain⟨i,rfl,hi,bD,aA⟩:=hrel;have bN:=hid bD;have cJ:=hid aA;clear bD aA;by_cases hil:i<q
      ·have cO:(i:Int)<q:=by omega
       obtain⟨g5,aj,rfl,bQ,bx,al,cM⟩:=cJ.out (by omega);obtain⟨cY,aC⟩:∃ v,aj[i*4+1]?=some v:=⟨_,Array.getElem?_eq_getElem (by omega)⟩;have cc:=cell_of_row _ g5 (i*4+1) _ _ _ al;rw[aC]at cc;have cf:=frozen_of_row _ g5 (i*4+1) _ _ al;have bj:=hid al;clear al aC;repeat (first|go_skip|go_guarded|go_step|go_upon)
       refine⟨⟨i+1,by go_num,by omega,bN.out.out (U:=fun k=>k=g5) ((Out.refl (fun k=>k=g5) _).setCell (p:=⟨g5,i*4+1,none⟩) (fun _=>rfl) _) (fun k hk=>⟨.inr (by subst hk;exact⟨bQ,bx⟩),by subst hk;have:=P9.out.bel.size;omega⟩),fun _=>⟨g5,_,rfl,bQ,bx,row_set (j:=i*4+1) bj.out _,?_⟩⟩,by simp[RowKit.intOf];omega⟩;rw[Array.size_setIfInBounds];exact cM
      ·have cO:¬(i:Int)<q:=by omega
       clear hil;repeat (first|go_skip|go_guarded|go_step|go_upon)
       exact⟨⟨k+1,DN,by go_num,by omega,by omega,bN.out.weak (fun k hk=>absurd hk id),az.out⟩,by simp[RowKit.intOf];omega⟩
   ·have cz:¬(k:Int)<m:=by omega
    clear hlt aw;obtain⟨aG,a8,am,ab⟩:=a2.out.rtrace;have ah:=a2.out.qlt;obtain⟨L,hL⟩:∃ z,D.trace.length=z:=⟨_,rfl⟩;have bd:L<=60:=by have:=a2.out.tlen;omega
    have ag:=hid hL;rw[hL]at am ab;have ar:=hid ab;clear hL ab;repeat (first|go_skip|go_guarded|go_step|go_upon)
    refine wp_region_noPanic ?_;with_reducible refine QT.region_mix (S:=fun w'=>w'.cell? ⟨Q,7,none⟩=some (.slice aG L a8)) [(true,0),(true,2),(true,3),(true,4),(true,5),(false,1),(false,6)] 7 (by kernel_rfl) (by kernel_rfl) ?_ ?_ ?_
    ·exact fun _ _ _ _ _ h=>h
    ·exact am
    intro _;simp only[QT.pickM,List.filterMap_cons,List.filterMap_nil,List.getElem?_cons_succ,List.getElem?_cons_zero,Option.map_some,List.drop_succ_cons,drop_zero];refine QT.wpMix_take _ (by rfl) (by intro w' aa;go_simp;first|done|rfl|simp) ?_;try simp only[Act.put,setIfInBounds_toArray,set_cons_zero,set_cons_succ]
    refine QT.wpMix_take _ (by rfl) (by intro w' aa;go_simp;first|done|rfl|simp) ?_;try simp only[Act.put,setIfInBounds_toArray,set_cons_zero,set_cons_succ]
    refine QT.wpMix_take _ (by rfl) (by intro w' aa;go_simp;first|done|rfl|simp) ?_;try simp only[Act.put,setIfInBounds_toArray,set_cons_zero,set_cons_succ]
    refine QT.wpMix_take _ (by rfl) (by intro w' aa;go_simp;first|done|rfl|simp) ?_;try simp only[Act.put,setIfInBounds_toArray,set_cons_zero,set_cons_succ]
    refine QT.wpMix_take _ (by rfl) (by intro w' aa;go_simp;first|done|rfl|simp) ?_;try simp only[Act.put,setIfInBounds_toArray,set_cons_zero,set_cons_succ]
    intro K' hK;rw[if_pos (by rfl)];go_simp;refine((a2.out.below ((Below.refl _ _).drew)).dtrace (by omega)).mono ?_;rintro r w6 ⟨v6,rfl,ak,aE⟩;simp only[];have B6:=hid (((Below.refl _ _).drew).trans aE);have ax:=(B6.out.cell (p:=⟨Q,7,none⟩) ah).trans am;refine hK.out _ _ ax ?_;clear hK K';try simp only[Act.put,setIfInBounds_toArray,set_cons_zero,set_cons_succ]
    obtain⟨aU,aZ,a4,ac⟩:=owns_view ak;rw[ag.out]at a4 ac;subst a4
    have CD:=did_any aU aG aZ a8 D.trace w6 (fun h0=>by
     rw[ag.out]at h0 ⊢;obtain⟨g,e,h1,_,h2⟩:=ac h0
     exact⟨g,e,h1,h2⟩) (fun h0=>by
     rw[ag.out]at h0 ⊢;obtain⟨g,e,h1,h2⟩:=ar.out h0
     exact⟨g,e,Nat.lt_of_lt_of_le h1 B6.out.size,fun j hj=>(B6.out.cell (p:=⟨g,j,none⟩) h1).trans (h2 j hj)⟩) (by have:=ag.out;omega)
    rw[ag.out]at CD;have br:=hid CD;clear CD ak aE ac;intro K' hK;rw[if_pos (by rfl)];go_simp;refine br.out.mono ?_;rintro r w7 ⟨rfl,ay⟩;simp only[];refine hK.out _ _ ((ay.cell (p:=⟨Q,7,none⟩) (Nat.lt_of_lt_of_le ah B6.out.size)).trans ax) ?_;clear hK K';try simp only[Act.put,setIfInBounds_toArray,set_cons_zero,set_cons_succ]
    have B7:=hid (Below.trans B6.out (ay.mono B6.out.size));clear ay am ax;refine QT.wpMix_nil ?_;repeat (first|go_skip|go_guarded|go_step|go_upon)
    refine NoPanic.normal ?_;repeat (first|go_skip|go_guarded|go_step|go_upon)
    go_ret;exact⟨by first|rfl|simp,Below.trans B1.out ((Below.trans a2.out.bel (B7.out.mono a2.out.bel.size)).mono B1.out.size)⟩
 ·have CN:Hid (Calls Tryz.prog 10 #[.slice a0 n c0] w1 fun r w'=>r=.returned (.tuple #[.pointer none,.int .i64 60])/\Below w1.heap.size w1 w'):=hid (by
   have:=dnew_no a0 c0 t w1 bi.out (HW.out.below B1.out) (by simpa using ht);rw[HN.out]at this
   exact this)
  have cq:Hid (treeB t=false):=hid (by simpa using ht);clear ht;repeat (first|go_skip|go_guarded|go_step|go_upon)
  refine CN.out.mono ?_;rintro r w2 ⟨rfl,bz⟩;simp only[];have B2:=hid (Below.trans B1.out (bz.mono B1.out.size))
  have CQ:Hid (Calls Tryz.prog 11 #[.slice a0 n c0] w2 fun r w'=>r=.returned (.tuple #[.pointer none,.int .i64 60])/\Below w2.heap.size w2 w'):=hid (by
   have h6:=HW.out.below B2.out;have:=knew_no w2 a0 c0 t h6.lay cL.out h6.max cq.out;rw[HN.out]at this
   exact this)
  clear bz;repeat (first|go_skip|go_guarded|go_step|go_upon)
  refine CQ.out.mono ?_;rintro r w3 ⟨rfl,bZ⟩;simp only[];have B3:=hid (Below.trans B2.out (bZ.mono B2.out.size));clear bZ;have cA:=hid (fun V=>DG.write_nil V ⟨#[97]⟩ ⟨#[]⟩ 0);have CO:=hid DG.on_nil;have cE:=hid DG.steps_nil;have cC:=hid DG.tree_nil;have cm:=hid DG.trace_nil;have B:=B3
  repeat (first
   | (go_at_call 12;refine OM.onB (cA.out _) B ?_;intro w4 B;simp only[])
   | (go_at_call 13;refine(CO.out _).mono ?_;rintro r w4 ⟨rfl,rfl⟩;simp only[])
   | (go_at_call 14;refine(cE.out _).mono ?_;rintro r w4 ⟨rfl,rfl⟩;simp only[])
   | (go_at_call 15;refine(cC.out _).mono ?_;rintro r w4 ⟨rfl,rfl⟩;simp only[])
   | (go_at_call 16;refine(cm.out _).mono ?_;rintro r w4 ⟨rfl,rfl⟩;simp only[])
   | go_skip|go_guarded|go_step|go_upon)
  go_ret;exact⟨by first|rfl|simp,B.out⟩
end RK
end Go.Proofs.YtkmcjededpamnaaGreatDoor