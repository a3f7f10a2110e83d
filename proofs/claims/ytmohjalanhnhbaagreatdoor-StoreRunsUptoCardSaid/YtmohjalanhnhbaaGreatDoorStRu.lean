import Derived.Test.YtmohjalanhnhbaaGreatDoorMg19
set_option linter.all false
set_option maxRecDepth 100000
set_option maxHeartbeats 25600000
namespace Go.Proofs.YtmohjalanhnhbaaGreatDoor
open Go.RowKit Go.Lib Go.BigFrame
namespace RK
open OM TP TM DP DM FP DG TG TR
open _root_.Go.Proofs.YtmohjalanhnhbaaGreatDoor.ST (saveD clearD loadD)
theorem runs_any (a0 a1:Option Addr) (c0 c1:Nat) (t:List Nd) (os:List Op10) (fs:List Fate) (af:Option Addr) (cf:Nat) (es:List Edit) (vs:List Ev) (au:Option Addr) (cu:Nat) (w:World) (he:NF.Env w) (hw:TW.Wide w a0 c0 t) (hsm:TR.Small t) (hc:LayO w a1 os) (hlo:∀ c∈os,c.path.length+1<=1048576) (hcap:os.length<=c1) (hmax:os.length<=maxLen)
  (hf:∀ ad,af=some ad->(0<fs.length->ad.block<w.heap.size)/\∀ (j:Nat) (u:Value),(fatesC fs)[j]?=some u->w.cell? (ad.add j)=some u) (hno:af=none->fs.length=0/\cf=0) (hl:fs.length<=1048576) (hu:EdArg w au cu es vs) (hel:es.length<=1048576) (hp:∀ e∈es,e.path.length<=1048576/\TR.Small e.value/\e.value.length<=maxLen) :
  Calls Tryz.prog 4 #[.slice a0 t.length c0,.agg #[.slice af fs.length cf,.slice au es.length cu],.slice a1 os.length c1] w fun r w'=>r=.returned (.bool true)/\Below w.heap.size w w':=by
 have HE:=Lib.hid he
 have HW:=Lib.hid hw
 have HSm:=Lib.hid hsm
 have HC:=Lib.hid hc
 have HLo:=Lib.hid hlo
 have HF:=Lib.hid hf
 have HNo:=Lib.hid hno
 have HFl:=Lib.hid hl
 have HU:=Lib.hid hu
 have HPa:=Lib.hid hp
 have HEl:=Lib.hid hel
 have hucap:=hu.cap
 obtain⟨n,hn⟩:∃ n,t.length=n:=⟨_,rfl⟩
 obtain⟨m,hm⟩:∃ m,os.length=m:=⟨_,rfl⟩
 obtain⟨nf,hnf⟩:∃ n,fs.length=n:=⟨_,rfl⟩
 obtain⟨nu,hnu⟩:∃ n,es.length=n:=⟨_,rfl⟩
 have HN:=Lib.hid hn
 have HM:=Lib.hid hm
 have HNf:=Lib.hid hnf
 have HNu:=Lib.hid hnu
 unfold maxLen at hmax
 rw [hn,hm,hnf,hnu]
 rw [hm] at hcap hmax
 rw [hnu] at hel hucap
 have hmz:(m:Int)<=9223372036854775807:=by omega
 have b0:Below w.heap.size w (w.alloc (.cells #[.slice af nf cf,.slice au nu cu] 62)):=(Below.refl _ _).alloc (Nat.le_refl _) _
 have hr0:=heap_alloc_new w (.cells #[.slice af nf cf,.slice au nu cu] 62)
 obtain⟨w0,hw0⟩:∃ W,w.alloc (.cells #[.slice af nf cf,.slice au nu cu] 62)=W:=⟨_,rfl⟩
 rw [hw0] at b0 hr0
 have CA:=Lib.hid (awakeS_any w0 (he.below b0))
 have B0:=Lib.hid b0
 have HR0:=Lib.hid hr0
 have HZ0:Hid (w.heap.size<w0.heap.size):=Lib.hid (Array.getElem?_eq_some_iff.1 hr0).1
 clear he hw hsm hc hlo hf hno hl hu hp b0 hr0 hn hm hnf hnu
 go_enter Tryz.func4,Tryz.ntmps4
 repeat (first|(go_at_call 26;fail)|go_skip|go_guarded|go_step|go_upon)
 try rw [hw0]
 clear hw0
 refine CA.out.mono ?_
 rintro r w1 ⟨rfl,hb1⟩
 simp only []
 have B1:Hid (Below w.heap.size w w1):=Lib.hid (Below.trans B0.out (hb1.mono B0.out.size))
 have HZ1:Hid (w.heap.size<w1.heap.size):=Lib.hid (Nat.lt_of_lt_of_le HZ0.out hb1.size)
 have HR1:Hid (w1.heap[w.heap.size]?=some (.cells #[.slice af nf cf,.slice au nu cu] 62 (0,0))):=Lib.hid ((hb1.block _ HZ0.out).trans HR0.out)
 clear hb1
 have HE1:=Lib.hid (HE.out.below B1.out)
 by_cases ht:treeB t=true
 ·have CN:Hid (Calls Tryz.prog 10 #[.slice a0 n c0] w1 fun r w'=>∃ S P,r=.returned (.tuple #[.pointer (some ⟨P,0,none⟩),.int .i64 0])/\DS w1 w' S P 0 (newD t)):=Lib.hid (by
   have:=new_ds HE1.out (HW.out.below B1.out) ht
   rw [HN.out] at this
   exact this)
  have HTr:=Lib.hid ((tree_iff t).1 ht)
  clear ht
  repeat (first|(go_at_call 10;fail)|go_skip|go_guarded|go_step|go_upon)
  refine CN.out.mono ?_
  rintro r w2 ⟨S,P,rfl,h2⟩
  simp only []
  have D2:=Lib.hid h2
  have CQ:Hid (Calls Tryz.prog 11 #[.slice a0 n c0] w2 fun r w'=>∃ T Q,r=.returned (.tuple #[.pointer (some ⟨Q,0,none⟩),.int .i64 0])/\RS w2 w' T Q 0 (newD t)):=Lib.hid (by
   have:=knew_any w2 a0 c0 t ((HW.out.below B1.out).below h2.bel).lay HTr.out
   rw [HN.out] at this
   exact this)
  clear h2
  repeat (first|(go_at_call 11;fail)|go_skip|go_guarded|go_step|go_upon)
  refine CQ.out.mono ?_
  rintro r w3 ⟨T,Q,rfl,h3⟩
  simp only []
  have P3:=Lib.hid (PrB.start D2.out h3 HR1.out)
  clear h3
  obtain⟨y0,y1,yf⟩:=row2 P3.out.row
  have hfa:∀ ad,af=some ad->(0<fs.length->ad.block<w1.heap.size)/\∀ (j:Nat) (u:Value),(fatesC fs)[j]?=some u->w1.cell? (ad.add j)=some u:=fun ad ha=>⟨fun h0=>Nat.lt_of_lt_of_le ((HF.out ad ha).1 h0) B1.out.size,fun j u hj=>((by
   have hab:(ad.add j).block=ad.block:=by unfold Addr.add;split<;>rfl
   have h0:0<fs.length:=by have:=(List.getElem?_eq_some_iff.1 hj).1;rw [fates_len] at this;omega
   exact (B1.out.cell (p:=ad.add j) (by rw [hab];exact (HF.out ad ha).1 h0)).trans ((HF.out ad ha).2 j u hj)))⟩
  have HFa:=Lib.hid hfa
  have hep:∀ e∈es,e.path.length<=maxLen:=fun e he=>by have:=(HPa.out e he).1;unfold maxLen;omega
  have HEp:=Lib.hid hep
  have CB:Hid (Calls Tryz.prog 17 #[.pointer (some ⟨P,0,none⟩),.slice af nf cf,.slice au nu cu] w3 fun r W'=>r=.returned (.tuple #[])/\PrB w1 W' P Q 0 (bootD (newD t) fs es) 0 (newD t) w.heap.size (.cells #[.slice af nf cf,.slice au nu cu] 62 (0,0))):=Lib.hid (by
   have:=P3.out.left (fun S hd=>hd.bootE fs af cf HFa.out HNo.out HFl.out es vs au cu (HU.out.below B1.out) HEl.out HEp.out)
   rw [HNf.out,HNu.out] at this
   exact this)
  clear hfa hep
  repeat (first|(go_at_call 17;fail)|go_skip|go_guarded|go_step|go_upon)
  refine CB.out.mono ?_
  rintro r w4 ⟨rfl,h4⟩
  simp only []
  have P4:=Lib.hid h4
  clear h4 y0 y1 yf
  obtain⟨y0,y1,yf⟩:=row2 P4.out.row
  have CK:Hid (Calls Tryz.prog 18 #[.pointer (some ⟨Q,0,none⟩),.slice af nf cf,.slice au nu cu] w4 fun r W'=>r=.returned (.tuple #[])/\PrB w1 W' P Q 0 (bootD (newD t) fs es) 0 (bootD (newD t) fs es) w.heap.size (.cells #[.slice af nf cf,.slice au nu cu] 62 (0,0))):=Lib.hid (by
   have:=P4.out.right (fun T hr=>kboot_any w1 w4 T Q 0 (newD t) hr fs af cf es vs au cu ⟨fun ad ha=>(HFa.out ad ha).2,fun ad ha=>(HFa.out ad ha).1,fun h=>(HNo.out h).1,HFl.out⟩ (HU.out.below B1.out) HEl.out HEp.out)
   rw [HNf.out,HNu.out] at this
   exact this)
  repeat (first|(go_at_call 18;fail)|go_skip|go_guarded|go_step|go_upon)
  refine CK.out.mono ?_
  rintro r w5 ⟨rfl,h5⟩
  simp only []
  have P5:=Lib.hid h5.pr
  have V5:Hid (RK.V (bootD (newD t) fs es)):=Lib.hid ((RK.V.new HTr.out).boot fs HPa.out)
  clear h5 y0 y1 yf
  repeat (first|go_skip|go_guarded|go_step|go_upon)
  go_loopw [59] (fun s59 wr=>∃ (k:Nat) (D:Dk),s59=.int .i64 k/\k<=m/\k<=20/\Pr w1 wr P Q (4*k) D (4*k) D/\RK.V D) (fun s59 _=>m-(Go.RowKit.intOf s59).toNat)
  case atStart=>exact⟨0,_,rfl,Nat.zero_le _,Nat.zero_le _,P5.out,V5.out⟩
  case round =>
   obtain⟨k,D,rfl,hk,hk20,hpr,hvd⟩:=hrel
   have HPr:=Lib.hid hpr
   have HVD:=Lib.hid hvd
   clear hvd
   by_cases hlt:k<m
   ·have hkz:(k:Int)<m:=by omega
    obtain⟨g,o,rfl,hg,hcell⟩:=HC.out (by rw [HM.out];omega)
    obtain⟨c,hcx⟩:∃ c,os[k]?=some c:=⟨os[k]'(by rw [HM.out];exact hlt),List.getElem?_eq_getElem _⟩
    have hcp:=HLo.out c (List.mem_of_getElem? hcx)
    have HCp:=Lib.hid hcp
    obtain⟨e0,e1,e2⟩:=hcell k c hcx
    have hgr1:g<w1.heap.size:=Nat.lt_of_lt_of_le hg B1.out.size
    have sC:∀ j,wr.cell? ⟨g,j,none⟩=w.cell? ⟨g,j,none⟩:=fun j=>(hpr.bel.cell (p:=⟨g,j,none⟩) hgr1).trans (B1.out.cell (p:=⟨g,j,none⟩) hg)
    rw [<- sC] at e0 e1 e2
    have hgr:g<wr.heap.size:=Nat.lt_of_lt_of_le hgr1 hpr.bel.size
    obtain⟨X,hX,hXd⟩:=txt_of c.path
    obtain⟨Y,hY,_⟩:=txt_of c.text
    obtain⟨wh,hwh⟩:∃ z,c.what=z:=⟨_,rfl⟩
    rw [hX] at e1
    rw [hY] at e2
    rw [hwh] at e0
    have HB0:=Lib.hid (hpr.box (.cells #[.int .i64 wh,.string X,.string Y] 65) (heap_alloc_new wr (.cells #[.int .i64 wh,.string X,.string Y] 65)))
    obtain⟨x0,x1,x2,xf⟩:=row3 HB0.out.row
    have HX:=Lib.hid hX
    have HY:=Lib.hid hY
    clear hcell hcx sC hXd hX hY hwh hpr hcp
    by_cases h20:k=20
    ·have hk2:((k:Int)==20)=true:=by simp [h20]
     have HZp:Hid (Pr w1 (wr.alloc (.cells #[.int .i64 wh,.string X,.string Y] 65)) P Q (4*k) D (4*k) D):=Lib.hid HB0.out.pr
     clear h20
     have CT:=Lib.hid (HZp.out.trace (by omega))
     obtain⟨L,hL⟩:∃ z,D.trace.length=z:=⟨_,rfl⟩
     have hL84:L<=84:=by have:=HZp.out.tlen;omega
     rw [hL] at CT
     have HLn:=Lib.hid hL
     clear hL
     repeat (first|(go_at_call 16;fail)|go_skip|go_guarded|go_step|go_upon)
     refine CT.out.mono ?_
     rintro r w6 ⟨v6,rfl,ho6,hb6⟩
     simp only []
     obtain⟨ao6,cc6,hv6,hcl6⟩:=owns_view ho6
     subst hv6
     have HCl6:=Lib.hid hcl6
     have H6:=Lib.hid (HZp.out.below hb6)
     clear ho6 hb6 hcl6
     repeat (first|go_skip|go_guarded|go_step|go_upon)
     go_loopw [145] (fun s145 wq=>∃ i:Nat,s145=.int .i64 i/\i<=L/\Below w6.heap.size w6 wq) (fun s145 _=>L-(Go.RowKit.intOf s145).toNat)
     case atStart=>exact⟨0,rfl,Nat.zero_le _,Below.refl _ _⟩
     case round =>
      obtain⟨i,rfl,hi,hbq⟩:=hrel
      have HBq:=Lib.hid hbq
      obtain⟨at7,ct7,hq7,hcl7⟩:=(H6.out.below hbq).rtrace
      rw [HLn.out] at hq7 hcl7
      clear hbq
      by_cases hil:i<L
      ·have hiz:(i:Int)<L:=by omega
       obtain⟨d,hd⟩:∃ d,D.trace[i]?=some d:=⟨D.trace[i]'(by rw [HLn.out];exact hil),List.getElem?_eq_getElem _⟩
       obtain⟨g6,rfl,hg6,_,hcl6⟩:=HCl6.out (by omega)
       obtain⟨g7,rfl,hg7,hcl7⟩:=hcl7 (by omega)
       have h6:∀ j,j<3->wr.cell? ⟨g6,i*3+j,none⟩=(didC d)[j]?:=fun j hj=>(HBq.out.cell (p:=⟨g6,i*3+j,none⟩) hg6).trans ((hcl6 (i*3+j) (by omega)).trans (dids_at _ _ _ _ hd hj))
       have h7:∀ j,j<3->wr.cell? ⟨g7,i*3+j,none⟩=(didC d)[j]?:=fun j hj=>(hcl7 (i*3+j) (by omega)).trans (dids_at _ _ _ _ hd hj)
       obtain⟨Y1,hY1,_⟩:=txt_of d.call
       obtain⟨Y2,hY2,_⟩:=txt_of d.path
       obtain⟨Y3,hY3,_⟩:=txt_of d.to
       have p0:wr.cell? ⟨g6,i*3,none⟩=some (.string Y1):=(h6 0 (by omega)).trans (by rw [<- hY1];rfl)
       have p1:wr.cell? ⟨g6,i*3+1,none⟩=some (.string Y2):=(h6 1 (by omega)).trans (by rw [<- hY2];rfl)
       have p2:wr.cell? ⟨g6,i*3+2,none⟩=some (.string Y3):=(h6 2 (by omega)).trans (by rw [<- hY3];rfl)
       have q0:wr.cell? ⟨g7,i*3,none⟩=some (.string Y1):=(h7 0 (by omega)).trans (by rw [<- hY1];rfl)
       have q1:wr.cell? ⟨g7,i*3+1,none⟩=some (.string Y2):=(h7 1 (by omega)).trans (by rw [<- hY2];rfl)
       have q2:wr.cell? ⟨g7,i*3+2,none⟩=some (.string Y3):=(h7 2 (by omega)).trans (by rw [<- hY3];rfl)
       have qe:=eq_did Y1 Y2 Y3
       clear h6 h7 hcl6 hcl7 hY1 hY2 hY3 hd
       repeat (first|go_skip|go_guarded|go_step|go_upon)
       refine wp_region_noPanic ?_
       with_reducible refine QT.region_mix (S:=fun w'=>w'.cell? ⟨g6,i*3,none⟩=some (.string Y1)/\w'.cell? ⟨g6,i*3+1,none⟩=some (.string Y2)/\w'.cell? ⟨g6,i*3+2,none⟩=some (.string Y3)/\w'.cell? ⟨g7,i*3,none⟩=some (.string Y1)/\w'.cell? ⟨g7,i*3+1,none⟩=some (.string Y2)/\w'.cell? ⟨g7,i*3+2,none⟩=some (.string Y3)/\w'.cell? ⟨Q,7,none⟩=some (.slice (some ⟨g7,0,none⟩) L ct7)) [(true,0),(true,1),(true,2),(true,3),(true,4),(true,5),(true,6),(true,7),(true,8),(true,9),(true,10)] 11 (by kernel_rfl) (by kernel_rfl) ?_ ?_ ?_
       ·exact fun _ _ _ _ _ h=>h
       ·exact⟨p0,p1,p2,q0,q1,q2,hq7⟩
       intro _
       simp only [QT.pickM,List.filterMap_cons,List.filterMap_nil,List.getElem?_cons_succ,List.getElem?_cons_zero,Option.map_some,List.drop_succ_cons,List.drop_zero]
       iterate 11 (refine QT.wpMix_take _ (by rfl) (by intro w' hSw;obtain⟨y0,y1,y2,y3,y4,y5,y6⟩:=hSw;go_simp;first|done|rfl|simp) ?_;try simp only [Act.put,List.setIfInBounds_toArray,List.set_cons_zero,List.set_cons_succ])
       refine QT.wpMix_nil ?_
       repeat (first|go_skip|go_guarded|go_step|go_upon)
       refine NoPanic.normal ?_
       repeat (first|go_skip|go_guarded|go_step|go_upon)
       exact⟨⟨i+1,by go_num,by omega,HBq.out.drew⟩,by simp [Go.RowKit.intOf];omega⟩
      ·have hiz:¬ (i:Int)<L:=by omega
       clear hil hcl7
       repeat (first|go_skip|go_guarded|go_step|go_upon)
       go_ret
       exact⟨by simp,Below.trans B1.out ((Below.trans H6.out.bel (HBq.out.mono H6.out.bel.size)).mono B1.out.size)⟩
    ·have hk2:((k:Int)==20)=false:=by simp;omega
     have hk19:k<20:=by omega
     clear h20
     by_cases hw0:wh=0
     ·subst hw0
      obtain⟨⟨DN,er⟩,hDN⟩:∃ z,saveD D c.path c.text=z:=⟨_,rfl⟩
      have CL:Hid (∀ W,PrB w1 W P Q (4*k) D (4*k) D wr.heap.size (.cells #[.int .i64 0,.string X,.string Y] 65 (0,0))->Calls Tryz.prog 27 #[.pointer (some ⟨P,0,none⟩),.string X,.string Y] W fun r W'=>r=.returned (.int .i64 er)/\PrB w1 W' P Q (4*(k+1)) DN (4*k) D wr.heap.size (.cells #[.int .i64 0,.string X,.string Y] 65 (0,0))):=Lib.hid (fun W hW=>by
       have:=hW.left (fun S hd=>save_any w1 W S P (4*k) D c.path c.text hd HE1.out (by omega) (by have:=HCp.out;show _<=maxLen;unfold maxLen;omega))
       rw [hDN] at this
       simp only at this
       rw [HX.out,HY.out] at this
       exact this.mono (fun r W' h=>⟨h.1,h.2.mono (by omega) (Nat.le_refl _)⟩))
      have CR:Hid (∀ W,PrB w1 W P Q (4*(k+1)) DN (4*k) D wr.heap.size (.cells #[.int .i64 0,.string X,.string Y] 65 (0,0))->Calls Tryz.prog 28 #[.pointer (some ⟨Q,0,none⟩),.string X,.string Y] W fun r W'=>r=.returned (.int .i64 er)/\PrB w1 W' P Q (4*(k+1)) DN (4*(k+1)) DN wr.heap.size (.cells #[.int .i64 0,.string X,.string Y] 65 (0,0))):=Lib.hid (fun W hW=>by
       have:=hW.right (fun T hr=>rsave_any w1 W T Q (4*k) D c.path c.text hr HVD.out (by omega) (by have:=HCp.out;omega))
       rw [hDN] at this
       simp only at this
       rw [HX.out,HY.out] at this
       exact this.mono (fun r W' h=>⟨h.1,h.2.mono (Nat.le_refl _) (by omega)⟩))
      have HVN:Hid (RK.V DN):=Lib.hid (by
       have:=HVD.out.save c.path c.text
       rw [hDN] at this
       exact this)
      clear hDN
      repeat (first|go_skip|go_guarded|go_step|go_upon)
      refine wp_region_noPanic ?_
      with_reducible refine QT.region_mix (S:=fun w'=>w'.cell? ⟨wr.heap.size,1,none⟩=some (.string X)/\w'.cell? ⟨wr.heap.size,2,none⟩=some (.string Y)) [(true,0),(true,1),(true,2),(true,3),(true,4),(true,6),(true,7),(true,8),(true,9),(true,10),(false,5),(false,11)] 12 (by kernel_rfl) (by kernel_rfl) ?_ ?_ ?_
      ·exact fun _ _ _ _ _ h=>h
      ·exact⟨x1,x2⟩
      intro _
      simp only [QT.pickM,List.filterMap_cons,List.filterMap_nil,List.getElem?_cons_succ,List.getElem?_cons_zero,Option.map_some,List.drop_succ_cons,List.drop_zero]
      iterate 10 (refine QT.wpMix_take _ (by rfl) (by intro w' hSw;obtain⟨y0,y1⟩:=hSw;go_simp;first|done|rfl|simp) ?_;try simp only [Act.put,List.setIfInBounds_toArray,List.set_cons_zero,List.set_cons_succ])
      intro K' hK
      rw [if_pos (by rfl)]
      go_simp
      refine (CL.out _ (HB0.out.below ((Below.refl _ _).drew))).mono ?_
      rintro r wA ⟨rfl,hA⟩
      simp only []
      have HA:=Lib.hid hA
      refine hK.out _ _ ⟨(row3 hA.row).2.1,(row3 hA.row).2.2.1⟩ ?_
      clear hK K' hA
      try simp only [Act.put,List.setIfInBounds_toArray,List.set_cons_zero,List.set_cons_succ]
      intro K' hK
      rw [if_pos (by rfl)]
      go_simp
      refine (CR.out _ HA.out).mono ?_
      rintro r wB ⟨rfl,hB⟩
      simp only []
      have HB:=Lib.hid hB
      refine hK.out _ _ ⟨(row3 hB.row).2.1,(row3 hB.row).2.2.1⟩ ?_
      clear hK K' hB x0 x1 x2 xf
      try simp only [Act.put,List.setIfInBounds_toArray,List.set_cons_zero,List.set_cons_succ]
      refine QT.wpMix_nil ?_
      repeat (first|go_skip|go_guarded|go_step|go_upon)
      refine NoPanic.normal ?_
      have hst:=HB.out.rsteps
      have hqlt:=HB.out.qlt
      repeat (first|go_skip|go_guarded|go_step|go_upon)
      refine wp_region_noPanic ?_
      with_reducible refine QT.region_mix (S:=fun w'=>w'.cell? ⟨Q,5,none⟩=some (.int .i64 (DN.trace.length:Nat))) [(true,0),(true,1),(true,2),(true,3),(true,4),(true,5),(true,6),(true,7),(true,8),(true,9),(true,10),(true,11),(true,12),(true,13),(true,14),(true,16),(true,17),(true,18),(true,19),(false,15),(true,20),(true,21),(true,22),(true,23),(true,25),(false,24),(false,26),(false,27)] 28 (by kernel_rfl) (by kernel_rfl) ?_ ?_ ?_
      ·exact fun _ _ _ _ _ h=>h
      ·exact hst
      intro _
      simp only [QT.pickM,List.filterMap_cons,List.filterMap_nil,List.getElem?_cons_succ,List.getElem?_cons_zero,Option.map_some,List.drop_succ_cons,List.drop_zero]
      iterate 2 (refine QT.wpMix_take _ (by rfl) (by intro w' hSw;go_simp;first|done|rfl|simp) ?_;try simp only [Act.put,List.setIfInBounds_toArray,List.set_cons_zero,List.set_cons_succ])
      (refine QT.wpMix_take (.bool false) (by rfl) (by intro w' hSw;go_simp;first|done|rfl|simp) ?_;try simp only [Act.put,List.setIfInBounds_toArray,List.set_cons_zero,List.set_cons_succ])
      iterate 3 (refine QT.wpMix_take _ (by rfl) (by intro w' hSw;go_simp;first|done|rfl|simp) ?_;try simp only [Act.put,List.setIfInBounds_toArray,List.set_cons_zero,List.set_cons_succ])
      iterate 2 (refine QT.wpMix_take (.bool false) (by rfl) (by intro w' hSw;go_simp;first|done|rfl|simp) ?_;try simp only [Act.put,List.setIfInBounds_toArray,List.set_cons_zero,List.set_cons_succ])
      iterate 3 (refine QT.wpMix_take _ (by rfl) (by intro w' hSw;go_simp;first|done|rfl|simp) ?_;try simp only [Act.put,List.setIfInBounds_toArray,List.set_cons_zero,List.set_cons_succ])
      iterate 2 (refine QT.wpMix_take (.bool false) (by rfl) (by intro w' hSw;go_simp;first|done|rfl|simp) ?_;try simp only [Act.put,List.setIfInBounds_toArray,List.set_cons_zero,List.set_cons_succ])
      iterate 6 (refine QT.wpMix_take _ (by rfl) (by intro w' hSw;go_simp;first|done|rfl|simp) ?_;try simp only [Act.put,List.setIfInBounds_toArray,List.set_cons_zero,List.set_cons_succ])
      intro K' hK
      rw [if_pos (by rfl)]
      go_simp
      refine (HB.out.below ((Below.refl _ _).drew)).dsteps.mono ?_
      rintro r wS ⟨rfl,rfl⟩
      simp only []
      refine hK.out _ _ hst ?_
      clear hK K'
      try simp only [Act.put,List.setIfInBounds_toArray,List.set_cons_zero,List.set_cons_succ]
      iterate 2 (refine QT.wpMix_take (.bool false) (by rfl) (by intro w' hSw;go_simp;first|done|rfl|simp) ?_;try simp only [Act.put,List.setIfInBounds_toArray,List.set_cons_zero,List.set_cons_succ])
      iterate 3 (refine QT.wpMix_take _ (by rfl) (by intro w' hSw;go_simp;first|done|rfl|simp) ?_;try simp only [Act.put,List.setIfInBounds_toArray,List.set_cons_zero,List.set_cons_succ])
      intro K' hK
      rw [if_pos (by rfl)]
      go_simp
      refine (HB.out.below ((Below.refl _ _).drew)).dtree.mono ?_
      rintro r wT ⟨v2,rfl,o2,b2⟩
      simp only []
      have BT:=Lib.hid (((Below.refl _ _).drew).trans b2)
      refine hK.out _ _ ((BT.out.cell (p:=⟨Q,5,none⟩) hqlt).trans hst) ?_
      clear hK K'
      try simp only [Act.put,List.setIfInBounds_toArray,List.set_cons_zero,List.set_cons_succ]
      obtain⟨a2,k2,hu2,hla2⟩:=lay_own o2
      subst hu2
      have HLa2:=Lib.hid hla2
      clear o2 b2 hla2
      intro K' hK
      rw [if_pos (by rfl)]
      go_simp
      refine ((HB.out.below BT.out).ktree HVN.out).mono ?_
      rintro r wU ⟨v3,rfl,o3,b3⟩
      simp only []
      have BU:=Lib.hid (Below.trans BT.out (b3.mono BT.out.size))
      refine hK.out _ _ ((BU.out.cell (p:=⟨Q,5,none⟩) hqlt).trans hst) ?_
      clear hK K'
      try simp only [Act.put,List.setIfInBounds_toArray,List.set_cons_zero,List.set_cons_succ]
      obtain⟨a3,k3,hu3,hla3⟩:=lay_own o3
      subst hu3
      have HLa3:=Lib.hid hla3
      have HLa2':=Lib.hid (HLa2.out.below b3)
      clear o3 b3 hla3
      intro K' hK
      rw [if_pos (by rfl)]
      go_simp
      have hmx:(treeD DN).length<=maxLen:=by have:=HVN.out.tree.len;unfold maxLen;omega
      refine (rsame_any a2 a3 k2 k3 _ _ wU HLa2'.out HLa3.out hmx hmx).mono ?_
      rintro r wV ⟨rfl,b4⟩
      simp only []
      have BV:=Lib.hid (Below.trans BU.out (b4.mono BU.out.size))
      refine hK.out _ _ ((BV.out.cell (p:=⟨Q,5,none⟩) hqlt).trans hst) ?_
      clear hK K' b4
      try simp only [Act.put,List.setIfInBounds_toArray,List.set_cons_zero,List.set_cons_succ]
      try rw [show decide (treeD DN=treeD DN)=true by simp]
      refine QT.wpMix_nil ?_
      repeat (first|go_skip|go_guarded|go_step|go_upon)
      refine NoPanic.normal ?_
      repeat (first|go_skip|go_guarded|go_step|go_upon)
      exact⟨⟨k+1,DN,by go_num,by omega,by omega,(HB.out.below BV.out).pr,HVN.out⟩,by simp [Go.RowKit.intOf];omega⟩
     ·have hw0z:(wh==0)=false:=by simpa using hw0
      by_cases hw1:wh=1
      ·subst hw1
       obtain⟨⟨DN,rt,rb,re⟩,hDN⟩:∃ z,loadD D c.path=z:=⟨_,rfl⟩
       obtain⟨Z,hZ,_⟩:=txt_of rt
       have CL:Hid (∀ W,PrB w1 W P Q (4*k) D (4*k) D wr.heap.size (.cells #[.int .i64 1,.string X,.string Y] 65 (0,0))->Calls Tryz.prog 29 #[.pointer (some ⟨P,0,none⟩),.string X] W fun r W'=>r=.returned (.tuple #[.string Z,.bool rb,.int .i64 re])/\PrB w1 W' P Q (4*(k+1)) DN (4*k) D wr.heap.size (.cells #[.int .i64 1,.string X,.string Y] 65 (0,0))):=Lib.hid (fun W hW=>by
        have:=hW.left (fun S hd=>load_any w1 W S P (4*k) D c.path hd HE1.out (by omega) (by have:=HCp.out;show _<=maxLen;unfold maxLen;omega))
        rw [hDN] at this
        simp only at this
        rw [HX.out,hZ] at this
        exact this.mono (fun r W' h=>⟨h.1,h.2.mono (by omega) (Nat.le_refl _)⟩))
       have CR:Hid (∀ W,PrB w1 W P Q (4*(k+1)) DN (4*k) D wr.heap.size (.cells #[.int .i64 1,.string X,.string Y] 65 (0,0))->Calls Tryz.prog 30 #[.pointer (some ⟨Q,0,none⟩),.string X] W fun r W'=>r=.returned (.tuple #[.string Z,.bool rb,.int .i64 re])/\PrB w1 W' P Q (4*(k+1)) DN (4*(k+1)) DN wr.heap.size (.cells #[.int .i64 1,.string X,.string Y] 65 (0,0))):=Lib.hid (fun W hW=>by
        have:=hW.right (fun T hr=>rload_any w1 W T Q (4*k) D c.path hr HVD.out (by omega) (by have:=HCp.out;omega))
        rw [hDN] at this
        simp only at this
        rw [HX.out,hZ] at this
        exact this.mono (fun r W' h=>⟨h.1,h.2.mono (Nat.le_refl _) (by omega)⟩))
       have HVN:Hid (RK.V DN):=Lib.hid (by
        have:=HVD.out.load c.path
        rw [hDN] at this
        exact this)
       clear hDN hZ
       repeat (first|(go_at_call 29;fail)|go_skip|go_guarded|go_step|go_upon)
       refine (CL.out _ HB0.out).mono ?_
       rintro r wA ⟨rfl,hA⟩
       simp only []
       have HA:=Lib.hid hA
       clear hA x0 x1 x2 xf
       obtain⟨x0,x1,x2,xf⟩:=row3 HA.out.row
       repeat (first|(go_at_call 30;fail)|go_skip|go_guarded|go_step|go_upon)
       refine (CR.out _ HA.out).mono ?_
       rintro r wB ⟨rfl,hB⟩
       simp only []
       have HB:=Lib.hid hB
       clear hB x0 x1 x2 xf
       have hst:=HB.out.rsteps
       have hqlt:=HB.out.qlt
       repeat (first|go_skip|go_guarded|go_step|go_upon)
       refine wp_region_noPanic ?_
       with_reducible refine QT.region_mix (S:=fun w'=>w'.cell? ⟨Q,5,none⟩=some (.int .i64 (DN.trace.length:Nat))) [(true,0),(true,1),(true,2),(true,3),(true,4),(true,5),(true,6),(true,7),(true,8),(true,9),(true,10),(true,11),(true,12),(true,13),(true,14),(true,16),(true,17),(true,18),(true,19),(false,15),(true,20),(true,21),(true,22),(true,23),(true,25),(false,24),(false,26),(false,27)] 28 (by kernel_rfl) (by kernel_rfl) ?_ ?_ ?_
       ·exact fun _ _ _ _ _ h=>h
       ·exact hst
       intro _
       simp only [QT.pickM,List.filterMap_cons,List.filterMap_nil,List.getElem?_cons_succ,List.getElem?_cons_zero,Option.map_some,List.drop_succ_cons,List.drop_zero]
       iterate 2 (refine QT.wpMix_take _ (by rfl) (by intro w' hSw;go_simp;first|done|rfl|simp) ?_;try simp only [Act.put,List.setIfInBounds_toArray,List.set_cons_zero,List.set_cons_succ])
       (refine QT.wpMix_take (.bool false) (by rfl) (by intro w' hSw;go_simp;first|done|rfl|simp) ?_;try simp only [Act.put,List.setIfInBounds_toArray,List.set_cons_zero,List.set_cons_succ])
       iterate 3 (refine QT.wpMix_take _ (by rfl) (by intro w' hSw;go_simp;first|done|rfl|simp) ?_;try simp only [Act.put,List.setIfInBounds_toArray,List.set_cons_zero,List.set_cons_succ])
       iterate 2 (refine QT.wpMix_take (.bool false) (by rfl) (by intro w' hSw;go_simp;first|done|rfl|simp) ?_;try simp only [Act.put,List.setIfInBounds_toArray,List.set_cons_zero,List.set_cons_succ])
       iterate 3 (refine QT.wpMix_take _ (by rfl) (by intro w' hSw;go_simp;first|done|rfl|simp) ?_;try simp only [Act.put,List.setIfInBounds_toArray,List.set_cons_zero,List.set_cons_succ])
       iterate 2 (refine QT.wpMix_take (.bool false) (by rfl) (by intro w' hSw;go_simp;first|done|rfl|simp) ?_;try simp only [Act.put,List.setIfInBounds_toArray,List.set_cons_zero,List.set_cons_succ])
       iterate 6 (refine QT.wpMix_take _ (by rfl) (by intro w' hSw;go_simp;first|done|rfl|simp) ?_;try simp only [Act.put,List.setIfInBounds_toArray,List.set_cons_zero,List.set_cons_succ])
       intro K' hK
       rw [if_pos (by rfl)]
       go_simp
       refine (HB.out.below ((Below.refl _ _).drew)).dsteps.mono ?_
       rintro r wS ⟨rfl,rfl⟩
       simp only []
       refine hK.out _ _ hst ?_
       clear hK K'
       try simp only [Act.put,List.setIfInBounds_toArray,List.set_cons_zero,List.set_cons_succ]
       iterate 2 (refine QT.wpMix_take (.bool false) (by rfl) (by intro w' hSw;go_simp;first|done|rfl|simp) ?_;try simp only [Act.put,List.setIfInBounds_toArray,List.set_cons_zero,List.set_cons_succ])
       iterate 3 (refine QT.wpMix_take _ (by rfl) (by intro w' hSw;go_simp;first|done|rfl|simp) ?_;try simp only [Act.put,List.setIfInBounds_toArray,List.set_cons_zero,List.set_cons_succ])
       intro K' hK
       rw [if_pos (by rfl)]
       go_simp
       refine (HB.out.below ((Below.refl _ _).drew)).dtree.mono ?_
       rintro r wT ⟨v2,rfl,o2,b2⟩
       simp only []
       have BT:=Lib.hid (((Below.refl _ _).drew).trans b2)
       refine hK.out _ _ ((BT.out.cell (p:=⟨Q,5,none⟩) hqlt).trans hst) ?_
       clear hK K'
       try simp only [Act.put,List.setIfInBounds_toArray,List.set_cons_zero,List.set_cons_succ]
       obtain⟨a2,k2,hu2,hla2⟩:=lay_own o2
       subst hu2
       have HLa2:=Lib.hid hla2
       clear o2 b2 hla2
       intro K' hK
       rw [if_pos (by rfl)]
       go_simp
       refine ((HB.out.below BT.out).ktree HVN.out).mono ?_
       rintro r wU ⟨v3,rfl,o3,b3⟩
       simp only []
       have BU:=Lib.hid (Below.trans BT.out (b3.mono BT.out.size))
       refine hK.out _ _ ((BU.out.cell (p:=⟨Q,5,none⟩) hqlt).trans hst) ?_
       clear hK K'
       try simp only [Act.put,List.setIfInBounds_toArray,List.set_cons_zero,List.set_cons_succ]
       obtain⟨a3,k3,hu3,hla3⟩:=lay_own o3
       subst hu3
       have HLa3:=Lib.hid hla3
       have HLa2':=Lib.hid (HLa2.out.below b3)
       clear o3 b3 hla3
       intro K' hK
       rw [if_pos (by rfl)]
       go_simp
       have hmx:(treeD DN).length<=maxLen:=by have:=HVN.out.tree.len;unfold maxLen;omega
       refine (rsame_any a2 a3 k2 k3 _ _ wU HLa2'.out HLa3.out hmx hmx).mono ?_
       rintro r wV ⟨rfl,b4⟩
       simp only []
       have BV:=Lib.hid (Below.trans BU.out (b4.mono BU.out.size))
       refine hK.out _ _ ((BV.out.cell (p:=⟨Q,5,none⟩) hqlt).trans hst) ?_
       clear hK K' b4
       try simp only [Act.put,List.setIfInBounds_toArray,List.set_cons_zero,List.set_cons_succ]
       try rw [show decide (treeD DN=treeD DN)=true by simp]
       refine QT.wpMix_nil ?_
       repeat (first|go_skip|go_guarded|go_step|go_upon)
       refine NoPanic.normal ?_
       repeat (first|go_skip|go_guarded|go_step|go_upon)
       exact⟨⟨k+1,DN,by go_num,by omega,by omega,(HB.out.below BV.out).pr,HVN.out⟩,by simp [Go.RowKit.intOf];omega⟩
      ·have hw1z:(wh==1)=false:=by simpa using hw1
       by_cases hw2:wh=2
       ·subst hw2
        obtain⟨⟨DN,er⟩,hDN⟩:∃ z,clearD D c.path=z:=⟨_,rfl⟩
        have CL:Hid (∀ W,PrB w1 W P Q (4*k) D (4*k) D wr.heap.size (.cells #[.int .i64 2,.string X,.string Y] 65 (0,0))->Calls Tryz.prog 31 #[.pointer (some ⟨P,0,none⟩),.string X] W fun r W'=>r=.returned (.int .i64 er)/\PrB w1 W' P Q (4*(k+1)) DN (4*k) D wr.heap.size (.cells #[.int .i64 2,.string X,.string Y] 65 (0,0))):=Lib.hid (fun W hW=>by
         have:=hW.left (fun S hd=>clear_any w1 W S P (4*k) D c.path hd HE1.out (by omega) (by have:=HCp.out;show _<=maxLen;unfold maxLen;omega))
         rw [hDN] at this
         simp only at this
         rw [HX.out] at this
         exact this.mono (fun r W' h=>⟨h.1,h.2.mono (by omega) (Nat.le_refl _)⟩))
        have CR:Hid (∀ W,PrB w1 W P Q (4*(k+1)) DN (4*k) D wr.heap.size (.cells #[.int .i64 2,.string X,.string Y] 65 (0,0))->Calls Tryz.prog 32 #[.pointer (some ⟨Q,0,none⟩),.string X] W fun r W'=>r=.returned (.int .i64 er)/\PrB w1 W' P Q (4*(k+1)) DN (4*(k+1)) DN wr.heap.size (.cells #[.int .i64 2,.string X,.string Y] 65 (0,0))):=Lib.hid (fun W hW=>by
         have:=hW.right (fun T hr=>rclear_any w1 W T Q (4*k) D c.path hr HVD.out (by omega) (by have:=HCp.out;omega))
         rw [hDN] at this
         simp only at this
         rw [HX.out] at this
         exact this.mono (fun r W' h=>⟨h.1,h.2.mono (Nat.le_refl _) (by omega)⟩))
        have HVN:Hid (RK.V DN):=Lib.hid (by
         have:=HVD.out.clear c.path
         rw [hDN] at this
         exact this)
        clear hDN
        repeat (first|go_skip|go_guarded|go_step|go_upon)
        refine wp_region_noPanic ?_
        with_reducible refine QT.region_mix (S:=fun w'=>w'.cell? ⟨wr.heap.size,1,none⟩=some (.string X)/\w'.cell? ⟨wr.heap.size,2,none⟩=some (.string Y)) [(true,0),(true,1),(true,2),(true,4),(true,5),(true,6),(false,3),(false,7)] 8 (by kernel_rfl) (by kernel_rfl) ?_ ?_ ?_
        ·exact fun _ _ _ _ _ h=>h
        ·exact⟨x1,x2⟩
        intro _
        simp only [QT.pickM,List.filterMap_cons,List.filterMap_nil,List.getElem?_cons_succ,List.getElem?_cons_zero,Option.map_some,List.drop_succ_cons,List.drop_zero]
        iterate 6 (refine QT.wpMix_take _ (by rfl) (by intro w' hSw;obtain⟨y0,y1⟩:=hSw;go_simp;first|done|rfl|simp) ?_;try simp only [Act.put,List.setIfInBounds_toArray,List.set_cons_zero,List.set_cons_succ])
        intro K' hK
        rw [if_pos (by rfl)]
        go_simp
        refine (CL.out _ (HB0.out.below ((Below.refl _ _).drew))).mono ?_
        rintro r wA ⟨rfl,hA⟩
        simp only []
        have HA:=Lib.hid hA
        refine hK.out _ _ ⟨(row3 hA.row).2.1,(row3 hA.row).2.2.1⟩ ?_
        clear hK K' hA
        try simp only [Act.put,List.setIfInBounds_toArray,List.set_cons_zero,List.set_cons_succ]
        intro K' hK
        rw [if_pos (by rfl)]
        go_simp
        refine (CR.out _ HA.out).mono ?_
        rintro r wB ⟨rfl,hB⟩
        simp only []
        have HB:=Lib.hid hB
        refine hK.out _ _ ⟨(row3 hB.row).2.1,(row3 hB.row).2.2.1⟩ ?_
        clear hK K' hB x0 x1 x2 xf
        try simp only [Act.put,List.setIfInBounds_toArray,List.set_cons_zero,List.set_cons_succ]
        refine QT.wpMix_nil ?_
        repeat (first|go_skip|go_guarded|go_step|go_upon)
        refine NoPanic.normal ?_
        have hst:=HB.out.rsteps
        have hqlt:=HB.out.qlt
        repeat (first|go_skip|go_guarded|go_step|go_upon)
        refine wp_region_noPanic ?_
        with_reducible refine QT.region_mix (S:=fun w'=>w'.cell? ⟨Q,5,none⟩=some (.int .i64 (DN.trace.length:Nat))) [(true,0),(true,1),(true,2),(true,3),(true,4),(true,5),(true,6),(true,7),(true,8),(true,9),(true,10),(true,11),(true,12),(true,13),(true,14),(true,16),(true,17),(true,18),(true,19),(false,15),(true,20),(true,21),(true,22),(true,23),(true,25),(false,24),(false,26),(false,27)] 28 (by kernel_rfl) (by kernel_rfl) ?_ ?_ ?_
        ·exact fun _ _ _ _ _ h=>h
        ·exact hst
        intro _
        simp only [QT.pickM,List.filterMap_cons,List.filterMap_nil,List.getElem?_cons_succ,List.getElem?_cons_zero,Option.map_some,List.drop_succ_cons,List.drop_zero]
        iterate 2 (refine QT.wpMix_take _ (by rfl) (by intro w' hSw;go_simp;first|done|rfl|simp) ?_;try simp only [Act.put,List.setIfInBounds_toArray,List.set_cons_zero,List.set_cons_succ])
        (refine QT.wpMix_take (.bool false) (by rfl) (by intro w' hSw;go_simp;first|done|rfl|simp) ?_;try simp only [Act.put,List.setIfInBounds_toArray,List.set_cons_zero,List.set_cons_succ])
        iterate 3 (refine QT.wpMix_take _ (by rfl) (by intro w' hSw;go_simp;first|done|rfl|simp) ?_;try simp only [Act.put,List.setIfInBounds_toArray,List.set_cons_zero,List.set_cons_succ])
        iterate 2 (refine QT.wpMix_take (.bool false) (by rfl) (by intro w' hSw;go_simp;first|done|rfl|simp) ?_;try simp only [Act.put,List.setIfInBounds_toArray,List.set_cons_zero,List.set_cons_succ])
        iterate 3 (refine QT.wpMix_take _ (by rfl) (by intro w' hSw;go_simp;first|done|rfl|simp) ?_;try simp only [Act.put,List.setIfInBounds_toArray,List.set_cons_zero,List.set_cons_succ])
        iterate 2 (refine QT.wpMix_take (.bool false) (by rfl) (by intro w' hSw;go_simp;first|done|rfl|simp) ?_;try simp only [Act.put,List.setIfInBounds_toArray,List.set_cons_zero,List.set_cons_succ])
        iterate 6 (refine QT.wpMix_take _ (by rfl) (by intro w' hSw;go_simp;first|done|rfl|simp) ?_;try simp only [Act.put,List.setIfInBounds_toArray,List.set_cons_zero,List.set_cons_succ])
        intro K' hK
        rw [if_pos (by rfl)]
        go_simp
        refine (HB.out.below ((Below.refl _ _).drew)).dsteps.mono ?_
        rintro r wS ⟨rfl,rfl⟩
        simp only []
        refine hK.out _ _ hst ?_
        clear hK K'
        try simp only [Act.put,List.setIfInBounds_toArray,List.set_cons_zero,List.set_cons_succ]
        iterate 2 (refine QT.wpMix_take (.bool false) (by rfl) (by intro w' hSw;go_simp;first|done|rfl|simp) ?_;try simp only [Act.put,List.setIfInBounds_toArray,List.set_cons_zero,List.set_cons_succ])
        iterate 3 (refine QT.wpMix_take _ (by rfl) (by intro w' hSw;go_simp;first|done|rfl|simp) ?_;try simp only [Act.put,List.setIfInBounds_toArray,List.set_cons_zero,List.set_cons_succ])
        intro K' hK
        rw [if_pos (by rfl)]
        go_simp
        refine (HB.out.below ((Below.refl _ _).drew)).dtree.mono ?_
        rintro r wT ⟨v2,rfl,o2,b2⟩
        simp only []
        have BT:=Lib.hid (((Below.refl _ _).drew).trans b2)
        refine hK.out _ _ ((BT.out.cell (p:=⟨Q,5,none⟩) hqlt).trans hst) ?_
        clear hK K'
        try simp only [Act.put,List.setIfInBounds_toArray,List.set_cons_zero,List.set_cons_succ]
        obtain⟨a2,k2,hu2,hla2⟩:=lay_own o2
        subst hu2
        have HLa2:=Lib.hid hla2
        clear o2 b2 hla2
        intro K' hK
        rw [if_pos (by rfl)]
        go_simp
        refine ((HB.out.below BT.out).ktree HVN.out).mono ?_
        rintro r wU ⟨v3,rfl,o3,b3⟩
        simp only []
        have BU:=Lib.hid (Below.trans BT.out (b3.mono BT.out.size))
        refine hK.out _ _ ((BU.out.cell (p:=⟨Q,5,none⟩) hqlt).trans hst) ?_
        clear hK K'
        try simp only [Act.put,List.setIfInBounds_toArray,List.set_cons_zero,List.set_cons_succ]
        obtain⟨a3,k3,hu3,hla3⟩:=lay_own o3
        subst hu3
        have HLa3:=Lib.hid hla3
        have HLa2':=Lib.hid (HLa2.out.below b3)
        clear o3 b3 hla3
        intro K' hK
        rw [if_pos (by rfl)]
        go_simp
        have hmx:(treeD DN).length<=maxLen:=by have:=HVN.out.tree.len;unfold maxLen;omega
        refine (rsame_any a2 a3 k2 k3 _ _ wU HLa2'.out HLa3.out hmx hmx).mono ?_
        rintro r wV ⟨rfl,b4⟩
        simp only []
        have BV:=Lib.hid (Below.trans BU.out (b4.mono BU.out.size))
        refine hK.out _ _ ((BV.out.cell (p:=⟨Q,5,none⟩) hqlt).trans hst) ?_
        clear hK K' b4
        try simp only [Act.put,List.setIfInBounds_toArray,List.set_cons_zero,List.set_cons_succ]
        try rw [show decide (treeD DN=treeD DN)=true by simp]
        refine QT.wpMix_nil ?_
        repeat (first|go_skip|go_guarded|go_step|go_upon)
        refine NoPanic.normal ?_
        repeat (first|go_skip|go_guarded|go_step|go_upon)
        exact⟨⟨k+1,DN,by go_num,by omega,by omega,(HB.out.below BV.out).pr,HVN.out⟩,by simp [Go.RowKit.intOf];omega⟩
       ·have hw2z:(wh==2)=false:=by simpa using hw2
        obtain⟨DN,hDN⟩:∃ z,D=z:=⟨_,rfl⟩
        have HB:Hid (PrB w1 (wr.alloc (.cells #[.int .i64 wh,.string X,.string Y] 65)) P Q (4*(k+1)) DN (4*(k+1)) DN wr.heap.size (.cells #[.int .i64 wh,.string X,.string Y] 65 (0,0))):=Lib.hid (by
         have:=HB0.out.mono (m':=4*(k+1)) (n':=4*(k+1)) (by omega) (by omega)
         rw [hDN] at this
         exact this)
        have HVN:Hid (RK.V DN):=Lib.hid (hDN ▸ HVD.out)
        clear hDN
        have hst:=HB.out.rsteps
        have hqlt:=HB.out.qlt
        repeat (first|go_skip|go_guarded|go_step|go_upon)
        refine wp_region_noPanic ?_
        with_reducible refine QT.region_mix (S:=fun w'=>w'.cell? ⟨Q,5,none⟩=some (.int .i64 (DN.trace.length:Nat))) [(true,0),(true,1),(true,2),(true,3),(true,4),(true,5),(true,6),(true,7),(true,8),(true,9),(true,10),(true,11),(true,12),(true,13),(true,14),(true,16),(true,17),(true,18),(true,19),(false,15),(true,20),(true,21),(true,22),(true,23),(true,25),(false,24),(false,26),(false,27)] 28 (by kernel_rfl) (by kernel_rfl) ?_ ?_ ?_
        ·exact fun _ _ _ _ _ h=>h
        ·exact hst
        intro _
        simp only [QT.pickM,List.filterMap_cons,List.filterMap_nil,List.getElem?_cons_succ,List.getElem?_cons_zero,Option.map_some,List.drop_succ_cons,List.drop_zero]
        iterate 2 (refine QT.wpMix_take _ (by rfl) (by intro w' hSw;go_simp;first|done|rfl|simp) ?_;try simp only [Act.put,List.setIfInBounds_toArray,List.set_cons_zero,List.set_cons_succ])
        (refine QT.wpMix_take (.bool false) (by rfl) (by intro w' hSw;go_simp;first|done|rfl|simp) ?_;try simp only [Act.put,List.setIfInBounds_toArray,List.set_cons_zero,List.set_cons_succ])
        iterate 3 (refine QT.wpMix_take _ (by rfl) (by intro w' hSw;go_simp;first|done|rfl|simp) ?_;try simp only [Act.put,List.setIfInBounds_toArray,List.set_cons_zero,List.set_cons_succ])
        iterate 2 (refine QT.wpMix_take (.bool false) (by rfl) (by intro w' hSw;go_simp;first|done|rfl|simp) ?_;try simp only [Act.put,List.setIfInBounds_toArray,List.set_cons_zero,List.set_cons_succ])
        iterate 3 (refine QT.wpMix_take _ (by rfl) (by intro w' hSw;go_simp;first|done|rfl|simp) ?_;try simp only [Act.put,List.setIfInBounds_toArray,List.set_cons_zero,List.set_cons_succ])
        iterate 2 (refine QT.wpMix_take (.bool false) (by rfl) (by intro w' hSw;go_simp;first|done|rfl|simp) ?_;try simp only [Act.put,List.setIfInBounds_toArray,List.set_cons_zero,List.set_cons_succ])
        iterate 6 (refine QT.wpMix_take _ (by rfl) (by intro w' hSw;go_simp;first|done|rfl|simp) ?_;try simp only [Act.put,List.setIfInBounds_toArray,List.set_cons_zero,List.set_cons_succ])
        intro K' hK
        rw [if_pos (by rfl)]
        go_simp
        refine (HB.out.below ((Below.refl _ _).drew)).dsteps.mono ?_
        rintro r wS ⟨rfl,rfl⟩
        simp only []
        refine hK.out _ _ hst ?_
        clear hK K'
        try simp only [Act.put,List.setIfInBounds_toArray,List.set_cons_zero,List.set_cons_succ]
        iterate 2 (refine QT.wpMix_take (.bool false) (by rfl) (by intro w' hSw;go_simp;first|done|rfl|simp) ?_;try simp only [Act.put,List.setIfInBounds_toArray,List.set_cons_zero,List.set_cons_succ])
        iterate 3 (refine QT.wpMix_take _ (by rfl) (by intro w' hSw;go_simp;first|done|rfl|simp) ?_;try simp only [Act.put,List.setIfInBounds_toArray,List.set_cons_zero,List.set_cons_succ])
        intro K' hK
        rw [if_pos (by rfl)]
        go_simp
        refine (HB.out.below ((Below.refl _ _).drew)).dtree.mono ?_
        rintro r wT ⟨v2,rfl,o2,b2⟩
        simp only []
        have BT:=Lib.hid (((Below.refl _ _).drew).trans b2)
        refine hK.out _ _ ((BT.out.cell (p:=⟨Q,5,none⟩) hqlt).trans hst) ?_
        clear hK K'
        try simp only [Act.put,List.setIfInBounds_toArray,List.set_cons_zero,List.set_cons_succ]
        obtain⟨a2,k2,hu2,hla2⟩:=lay_own o2
        subst hu2
        have HLa2:=Lib.hid hla2
        clear o2 b2 hla2
        intro K' hK
        rw [if_pos (by rfl)]
        go_simp
        refine ((HB.out.below BT.out).ktree HVN.out).mono ?_
        rintro r wU ⟨v3,rfl,o3,b3⟩
        simp only []
        have BU:=Lib.hid (Below.trans BT.out (b3.mono BT.out.size))
        refine hK.out _ _ ((BU.out.cell (p:=⟨Q,5,none⟩) hqlt).trans hst) ?_
        clear hK K'
        try simp only [Act.put,List.setIfInBounds_toArray,List.set_cons_zero,List.set_cons_succ]
        obtain⟨a3,k3,hu3,hla3⟩:=lay_own o3
        subst hu3
        have HLa3:=Lib.hid hla3
        have HLa2':=Lib.hid (HLa2.out.below b3)
        clear o3 b3 hla3
        intro K' hK
        rw [if_pos (by rfl)]
        go_simp
        have hmx:(treeD DN).length<=maxLen:=by have:=HVN.out.tree.len;unfold maxLen;omega
        refine (rsame_any a2 a3 k2 k3 _ _ wU HLa2'.out HLa3.out hmx hmx).mono ?_
        rintro r wV ⟨rfl,b4⟩
        simp only []
        have BV:=Lib.hid (Below.trans BU.out (b4.mono BU.out.size))
        refine hK.out _ _ ((BV.out.cell (p:=⟨Q,5,none⟩) hqlt).trans hst) ?_
        clear hK K' b4
        try simp only [Act.put,List.setIfInBounds_toArray,List.set_cons_zero,List.set_cons_succ]
        try rw [show decide (treeD DN=treeD DN)=true by simp]
        refine QT.wpMix_nil ?_
        repeat (first|go_skip|go_guarded|go_step|go_upon)
        refine NoPanic.normal ?_
        repeat (first|go_skip|go_guarded|go_step|go_upon)
        exact⟨⟨k+1,DN,by go_num,by omega,by omega,(HB.out.below BV.out).pr,HVN.out⟩,by simp [Go.RowKit.intOf];omega⟩
   ·have hkz:¬ (k:Int)<m:=by omega
    clear hlt hpr
    have CT:=Lib.hid (HPr.out.trace (by omega))
    obtain⟨L,hL⟩:∃ z,D.trace.length=z:=⟨_,rfl⟩
    have hL84:L<=84:=by have:=HPr.out.tlen;omega
    rw [hL] at CT
    have HLn:=Lib.hid hL
    clear hL
    repeat (first|(go_at_call 16;fail)|go_skip|go_guarded|go_step|go_upon)
    refine CT.out.mono ?_
    rintro r w6 ⟨v6,rfl,ho6,hb6⟩
    simp only []
    obtain⟨ao6,cc6,hv6,hcl6⟩:=owns_view ho6
    subst hv6
    have HCl6:=Lib.hid hcl6
    have H6:=Lib.hid (HPr.out.below hb6)
    clear ho6 hb6 hcl6
    repeat (first|go_skip|go_guarded|go_step|go_upon)
    go_loopw [145] (fun s145 wq=>∃ i:Nat,s145=.int .i64 i/\i<=L/\Below w6.heap.size w6 wq) (fun s145 _=>L-(Go.RowKit.intOf s145).toNat)
    case atStart=>exact⟨0,rfl,Nat.zero_le _,Below.refl _ _⟩
    case round =>
     obtain⟨i,rfl,hi,hbq⟩:=hrel
     have HBq:=Lib.hid hbq
     obtain⟨at7,ct7,hq7,hcl7⟩:=(H6.out.below hbq).rtrace
     rw [HLn.out] at hq7 hcl7
     clear hbq
     by_cases hil:i<L
     ·have hiz:(i:Int)<L:=by omega
      obtain⟨d,hd⟩:∃ d,D.trace[i]?=some d:=⟨D.trace[i]'(by rw [HLn.out];exact hil),List.getElem?_eq_getElem _⟩
      obtain⟨g6,rfl,hg6,_,hcl6⟩:=HCl6.out (by omega)
      obtain⟨g7,rfl,hg7,hcl7⟩:=hcl7 (by omega)
      have h6:∀ j,j<3->wr.cell? ⟨g6,i*3+j,none⟩=(didC d)[j]?:=fun j hj=>(HBq.out.cell (p:=⟨g6,i*3+j,none⟩) hg6).trans ((hcl6 (i*3+j) (by omega)).trans (dids_at _ _ _ _ hd hj))
      have h7:∀ j,j<3->wr.cell? ⟨g7,i*3+j,none⟩=(didC d)[j]?:=fun j hj=>(hcl7 (i*3+j) (by omega)).trans (dids_at _ _ _ _ hd hj)
      obtain⟨Y1,hY1,_⟩:=txt_of d.call
      obtain⟨Y2,hY2,_⟩:=txt_of d.path
      obtain⟨Y3,hY3,_⟩:=txt_of d.to
      have p0:wr.cell? ⟨g6,i*3,none⟩=some (.string Y1):=(h6 0 (by omega)).trans (by rw [<- hY1];rfl)
      have p1:wr.cell? ⟨g6,i*3+1,none⟩=some (.string Y2):=(h6 1 (by omega)).trans (by rw [<- hY2];rfl)
      have p2:wr.cell? ⟨g6,i*3+2,none⟩=some (.string Y3):=(h6 2 (by omega)).trans (by rw [<- hY3];rfl)
      have q0:wr.cell? ⟨g7,i*3,none⟩=some (.string Y1):=(h7 0 (by omega)).trans (by rw [<- hY1];rfl)
      have q1:wr.cell? ⟨g7,i*3+1,none⟩=some (.string Y2):=(h7 1 (by omega)).trans (by rw [<- hY2];rfl)
      have q2:wr.cell? ⟨g7,i*3+2,none⟩=some (.string Y3):=(h7 2 (by omega)).trans (by rw [<- hY3];rfl)
      have qe:=eq_did Y1 Y2 Y3
      clear h6 h7 hcl6 hcl7 hY1 hY2 hY3 hd
      repeat (first|go_skip|go_guarded|go_step|go_upon)
      refine wp_region_noPanic ?_
      with_reducible refine QT.region_mix (S:=fun w'=>w'.cell? ⟨g6,i*3,none⟩=some (.string Y1)/\w'.cell? ⟨g6,i*3+1,none⟩=some (.string Y2)/\w'.cell? ⟨g6,i*3+2,none⟩=some (.string Y3)/\w'.cell? ⟨g7,i*3,none⟩=some (.string Y1)/\w'.cell? ⟨g7,i*3+1,none⟩=some (.string Y2)/\w'.cell? ⟨g7,i*3+2,none⟩=some (.string Y3)/\w'.cell? ⟨Q,7,none⟩=some (.slice (some ⟨g7,0,none⟩) L ct7)) [(true,0),(true,1),(true,2),(true,3),(true,4),(true,5),(true,6),(true,7),(true,8),(true,9),(true,10)] 11 (by kernel_rfl) (by kernel_rfl) ?_ ?_ ?_
      ·exact fun _ _ _ _ _ h=>h
      ·exact⟨p0,p1,p2,q0,q1,q2,hq7⟩
      intro _
      simp only [QT.pickM,List.filterMap_cons,List.filterMap_nil,List.getElem?_cons_succ,List.getElem?_cons_zero,Option.map_some,List.drop_succ_cons,List.drop_zero]
      iterate 11 (refine QT.wpMix_take _ (by rfl) (by intro w' hSw;obtain⟨y0,y1,y2,y3,y4,y5,y6⟩:=hSw;go_simp;first|done|rfl|simp) ?_;try simp only [Act.put,List.setIfInBounds_toArray,List.set_cons_zero,List.set_cons_succ])
      refine QT.wpMix_nil ?_
      repeat (first|go_skip|go_guarded|go_step|go_upon)
      refine NoPanic.normal ?_
      repeat (first|go_skip|go_guarded|go_step|go_upon)
      exact⟨⟨i+1,by go_num,by omega,HBq.out.drew⟩,by simp [Go.RowKit.intOf];omega⟩
     ·have hiz:¬ (i:Int)<L:=by omega
      clear hil hcl7
      repeat (first|go_skip|go_guarded|go_step|go_upon)
      go_ret
      exact⟨by simp,Below.trans B1.out ((Below.trans H6.out.bel (HBq.out.mono H6.out.bel.size)).mono B1.out.size)⟩
 ·have CN:Hid (Calls Tryz.prog 10 #[.slice a0 n c0] w1 fun r w'=>r=.returned (.tuple #[.pointer none,.int .i64 60])/\Below w1.heap.size w1 w'):=Lib.hid (by
   have:=dnew_no a0 c0 t w1 HE1.out (HW.out.below B1.out) (by simpa using ht)
   rw [HN.out] at this
   exact this)
  have HTf:Hid (treeB t=false):=Lib.hid (by simpa using ht)
  clear ht
  repeat (first|(go_at_call 10;fail)|go_skip|go_guarded|go_step|go_upon)
  refine CN.out.mono ?_
  rintro r w2 ⟨rfl,hb2⟩
  simp only []
  have B2:=Lib.hid (Below.trans B1.out (hb2.mono B1.out.size))
  have CQ:Hid (Calls Tryz.prog 11 #[.slice a0 n c0] w2 fun r w'=>r=.returned (.tuple #[.pointer none,.int .i64 60])/\Below w2.heap.size w2 w'):=Lib.hid (by
   have h6:=HW.out.below B2.out
   have:=knew_no w2 a0 c0 t h6.lay HSm.out h6.max HTf.out
   rw [HN.out] at this
   exact this)
  clear hb2
  repeat (first|(go_at_call 11;fail)|go_skip|go_guarded|go_step|go_upon)
  refine CQ.out.mono ?_
  rintro r w3 ⟨rfl,hb3⟩
  simp only []
  have B3:=Lib.hid (Below.trans B2.out (hb3.mono B2.out.size))
  clear hb3
  repeat (first|go_skip|go_guarded|go_step|go_upon)
  go_ret
  exact⟨by first|rfl|simp,B3.out⟩
end RK
end Go.Proofs.YtmohjalanhnhbaaGreatDoor