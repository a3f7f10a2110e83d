import Derived.Test.YtmohjalanhnhbaaGreatDoorTreeRefA
set_option linter.all false
set_option maxRecDepth 100000
set_option maxHeartbeats 25600000
namespace Go.Proofs.YtmohjalanhnhbaaGreatDoor
open Go.RowKit Go.Lib Go.BigFrame
namespace TR
open OM TP TM
def PutInv (w:World) (ts:List Nd) (p:List UInt8) (v:List Nd) (n:Nat) (s8 s9 s10:Value) (wr:World):Prop :=
 ∃ (i:Nat) (b:Bool),s10=.int .i64 i/\s9=.bool b/\i<=n+1/\wr.ownsRow w.heap.size 45 4 s8 (outK ts p v i b).length (nodesC (outK ts p v i b)) /\
  (b=false->i<=n/\Ahead ts p i)/\(b=true->Behind ts p i/\(v.all fun n=>NP.pathL (place p n.path))=true)/\Below w.heap.size w wr
def ValInv (w:World) (ts:List Nd) (p:List UInt8) (v:List Nd) (i m:Nat) (s8 s11:Value) (wr:World):Prop :=
 ∃ k:Nat,s11=.int .i64 k/\k<=m/\wr.ownsRow w.heap.size 45 4 s8 (outK ts p v i false++valK p v k).length (nodesC (outK ts p v i false++valK p v k))/\PathsK p v k/\Below w.heap.size w wr
theorem PutInv.of {w:World} {ts:List Nd} {p:List UInt8} {v:List Nd} {n:Nat} {s8 s9 s10:Value} {wr:World} (i:Nat) (b:Bool) (h10:s10=.int .i64 i) (h9:s9=.bool b) (hi:i<=n+1) (ho:wr.ownsRow w.heap.size 45 4 s8 (outK ts p v i b).length (nodesC (outK ts p v i b)))
  (h0:b=false->i<=n/\Ahead ts p i) (h1:b=true->Behind ts p i/\(v.all fun n=>NP.pathL (place p n.path))=true) (hb:Below w.heap.size w wr):PutInv w ts p v n s8 s9 s10 wr:=⟨i,b,h10,h9,hi,ho,h0,h1,hb⟩
theorem ValInv.of {w:World} {ts:List Nd} {p:List UInt8} {v:List Nd} {i m:Nat} {s8 s11:Value} {wr:World} (k:Nat) (h11:s11=.int .i64 k) (hk:k<=m) (ho:wr.ownsRow w.heap.size 45 4 s8 (outK ts p v i false++valK p v k).length (nodesC (outK ts p v i false++valK p v k))) (hp:PathsK p v k) (hb:Below w.heap.size w wr):ValInv w ts p v i m s8 s11 wr:=⟨k,h11,hk,ho,hp,hb⟩
theorem val_sum (ts:List Nd) (p:List UInt8) (v:List Nd) (i k:Nat):(outK ts p v i false++valK p v k).length<=2*ts.length+v.length+k:=by
 rw [List.length_append]
 have h1:=outK_len ts p v i false
 have h2:(valK p v k).length<=k:=by unfold valK;rw [List.length_map,List.length_take];omega
 omega
theorem valK_zero (p:List UInt8) (v:List Nd):valK p v 0=[]:=rfl
theorem val_short {v:List Nd} (h:rightV v=true) {y:Nd} (hy:y∈v):y.path.length<=400:=by
 rcases ((val_iff v).1 h).path y hy with e|e
 ·rw [e];simp
 ·exact ((path_iff _).1 e).1
theorem place_short (p q:List UInt8):(place p q).length<=p.length+1+q.length:=by
 unfold place
 split
 ·omega
 ·rw [List.length_append,List.length_cons];omega
theorem after_new {W w6:World} {a b c d:Value} {t:TypeId} (hb:Below (W.alloc (.cells #[a,b,c,d] t)).heap.size (W.alloc (.cells #[a,b,c,d] t)) w6) :
  w6.cell? ⟨W.heap.size,0,none⟩=some a/\w6.cell? ⟨W.heap.size,1,none⟩=some b/\w6.cell? ⟨W.heap.size,2,none⟩=some c/\w6.cell? ⟨W.heap.size,3,none⟩=some d/\Below W.heap.size W w6:=by
 obtain⟨c0,c1,c2,c3,_⟩:=cell4 (heap_alloc_new W (.cells #[a,b,c,d] t))
 have hlt:W.heap.size<(W.alloc (.cells #[a,b,c,d] t)).heap.size:=by simp
 exact⟨(hb.cell (p:=⟨W.heap.size,0,none⟩) hlt).trans c0,(hb.cell (p:=⟨W.heap.size,1,none⟩) hlt).trans c1,(hb.cell (p:=⟨W.heap.size,2,none⟩) hlt).trans c2,(hb.cell (p:=⟨W.heap.size,3,none⟩) hlt).trans c3,
  ((Below.refl _ _).alloc (Nat.le_refl _) _).trans (hb.mono (Nat.le_of_lt hlt))⟩
theorem txt_is (l:List UInt8):∃ S:ByteArray,txt l=.string S/\S.data.toList=l:=⟨_,rfl,by simp⟩
theorem txt_cat {a b c:List UInt8} {A B C:ByteArray} (ha:A.data.toList=a) (hb:B.data.toList=b) (hc:C.data.toList=c) (h:c=a++b):A++B=C:=by
 apply ByteArray.ext
 apply Array.ext'
 rw [hc,h,← ha,← hb]
 simp
theorem lay_cell {w:World} {g o:Nat} {ts:List Nd} (hg:g<w.heap.size) (hc:∀ (k:Nat) (n:Nd),ts[k]?=some n->NodeAt w g (o+k*4) n) {i:Nat} {x:Nd} (hx:ts[i]?=some x) {X D:ByteArray} (hX:txt x.path=.string X) (hD:txt x.data=.string D) :
  ∀ W,Below w.heap.size w W->W.cell? ⟨g,o+i*4,none⟩=some (.string X)/\W.cell? ⟨g,o+i*4+1,none⟩=some (.int .i64 x.kind)/\W.cell? ⟨g,o+i*4+2,none⟩=some (.string D)/\W.cell? ⟨g,o+i*4+3,none⟩=some (.int .i64 x.mode):=fun W hW=>by
 obtain⟨y0,y1,y2,y3⟩:=(hc i x hx).below hg hW
 rw [hX] at y0
 rw [hD] at y2
 exact⟨y0,y1,y2,y3⟩
theorem rput_yes (ao:Option Addr) (ca:Nat) (ts:List Nd) (p:List UInt8) (bo:Option Addr) (cb:Nat) (v:List Nd) (w:World) (h:PutIn w ao ts p bo cb v)
  (ht:treeB ts=true) (hv:rightV v=true) (hp:NP.pathL p=true) (hd:v=[]∨dirB ts (NP.parentL p)=true) :
  Calls Tryz.prog 208 #[.slice ao ts.length ca,txt p,.slice bo v.length cb] w (PutPost (putL ts p v) w):=by
 obtain⟨i0,hi,hz0,hz1,hz2⟩:=info_parts infoN
 have hmm:v.length<=1000:=val_len hv
 have hTr:=(tree_iff ts).1 ht
 have hnn:ts.length<=1000:=hTr.len
 obtain⟨S,U,hS,hSd,C⟩:=put_calls (ca:=ca) h
 have HP:Hid (putL ts p v=if (v.all fun n=>NP.pathL (place p n.path))=false then ([],11) else if 1000<(outL ts p v).length then ([],32) else (outL ts p v,0)):=Lib.hid (by
  unfold putL
  rw [if_neg (by rw [ht,hv];simp),if_neg (by rw [hp];simp),if_neg (by rintro ⟨a,b⟩;rcases hd with hd|hd;exact a hd;rw [hd] at b;cases b)])
 rw [hS]
 obtain⟨c1,c2,c3,c4,c5⟩:=C
 have hE:=(checkE_zero ts).2 ht
 rw [hE] at c1
 rw [hv] at c2
 rw [hp] at c3
 have C1:=Lib.hid c1
 have C2:=Lib.hid c2
 have C3:=Lib.hid c3
 have C4:=Lib.hid c4
 have HL:=Lib.hid h.layT
 have HV:=Lib.hid h.layV
 have HTr:=Lib.hid hTr
 have HVv:=Lib.hid hv
 have HSd:=Lib.hid hSd
 have HPp:=Lib.hid hp
 have hp4:p.length<=400:=((path_iff p).1 hp).1
 have hSs:S.size<=400:=by rw [Lib.size_eq,hSd];exact hp4
 obtain⟨n,hn⟩:∃ n,ts.length=n:=⟨_,rfl⟩
 obtain⟨m,hm⟩:∃ m,v.length=m:=⟨_,rfl⟩
 have HN:=Lib.hid hn
 have HM:=Lib.hid hm
 have hm0:m=0↔v=[]:=by rw [<- hm];exact List.length_eq_zero_iff
 rw [hn] at C1 c5 hnn ⊢
 rw [hm] at C2 hmm ⊢
 have CO:Hid (∀ (X:ByteArray) (W:World),X.size<=1048576->Calls Tryz.prog 90 #[.string X,.string S] W fun r w'=>r=.returned (.int .i64 (NP.ordL X.data.toList p))/\Below W.heap.size W w'):=Lib.hid (fun X W hX=>by
  have c:=R1.RO.rorder_any X S W hX (by omega)
  unfold R1.RO.OrdPost at c
  rw [hSd] at c
  exact c)
 have CW:Hid (∀ (X:ByteArray) (W:World),X.size<=1048576->Calls Tryz.prog 100 #[.string X,.string S] W fun r w'=>r=.returned (.bool (NP.withinL X.data.toList p))/\Below W.heap.size W w'):=Lib.hid (fun X W hX=>by
  have c:=R1.RO.rwithin_any X S W hX (by omega)
  unfold R1.RO.InPost at c
  rw [hSd] at c
  exact c)
 have CP:Hid (∀ (X:ByteArray) (W:World),X.size<=1048576->Calls Tryz.prog 86 #[.string X] W fun r w'=>r=.returned (.bool (NP.pathL X.data.toList))/\Below W.heap.size W w'):=Lib.hid (fun X W hX=>R1.RQ.rpath_any X W hX)
 clear c1 c2 c3 c4 hn hm hE hv ht hp hS hSd hTr h hp4
 by_cases m0:m=0
 ·have mz:¬ (0:Int)<m:=by omega
  have mz':¬ 0<m:=by omega
  clear hd hm0 c5 m0
  go_enter Tryz.func208,Tryz.ntmps208
  repeat (first
   | (go_at_call 24;refine C1.out.mono ?_;rintro r w1 ⟨rfl,hb⟩;simp only [];have B1:=Lib.hid hb;clear hb)
   | (go_at_call 242;refine (C2.out _ B1.out).mono ?_;rintro r w2 ⟨rfl,hb⟩;simp only [];have B2:=Lib.hid (Below.trans B1.out (hb.mono B1.out.size));clear hb)
   | (go_at_call 86;refine (C3.out _).mono ?_;rintro r w3 ⟨rfl,hb⟩;simp only [];have B3:=Lib.hid (Below.trans B2.out (hb.mono B2.out.size));clear hb)
   | go_skip|go_guarded|go_step|go_upon)
  go_loopw [8,9,10,11,12] (fun s8 s9 s10 _ _ wr=>PutInv w ts p v n s8 s9 s10 wr) (fun _ _ s10 _ _ _=>n+1-(Go.RowKit.intOf s10).toNat)
  case atStart=>exact PutInv.of 0 false rfl rfl (by omega) (World.ownsRow_nil _ _ _ _) (fun _=>⟨Nat.zero_le _,Ahead.zero _ _⟩) (fun h=>by cases h) B3.out
  case round =>
   obtain⟨i,b,rfl,rfl,hi1,ho,hb0,hb1,hb⟩:=hrel
   obtain⟨wo,rfl⟩:∃ x,x=wr:=⟨_,rfl⟩
   have HO:=Lib.hid ho
   have HB:=Lib.hid hb
   have hbs:=hb.size
   have HKl:=Lib.hid (outK_len ts p v i b)
   rw [HN.out,HM.out] at HKl
   by_cases hile:i<=n
   ·have hiz:(i:Int)<=n:=by omega
    clear ho hb
    by_cases hin:i<n
    ·have hinz:(i:Int)<n:=by omega
     have hine:((i:Int)==n)=false:=by simp;omega
     have hinq:¬ (i:Int)=n:=by omega
     obtain⟨g,o,rfl,hg,hcell⟩:=HL.out (by rw [HN.out];omega)
     obtain⟨x,hx⟩:∃ x,ts[i]?=some x:=⟨ts[i]'(by rw [HN.out];exact hin),List.getElem?_eq_getElem _⟩
     have hxp:=HTr.out.path x (List.mem_of_getElem? hx)
     obtain⟨X,hX,hXd⟩:=txt_is x.path
     obtain⟨D,hD,_⟩:=txt_is x.data
     have hXs:X.size<=1048576:=by rw [Lib.size_eq,hXd];have:=((path_iff x.path).1 hxp).1;omega
     have CN:=Lib.hid (lay_cell hg hcell hx hX hD)
     have HNew:Hid (∀ W:World,∀ (j:Nat) (u:Value),(ndCells x)[j]?=some u->(W.alloc (.cells #[.string X,.int .i64 x.kind,.string D,.int .i64 x.mode] 45)).cell? ((⟨W.heap.size,0,none⟩:Addr).add j)=some u):=Lib.hid (fun W=>four_new W _ rfl x _ _ hX hD _)
     have CWx:=Lib.hid (fun W=>CW.out X W hXs)
     have COx:=Lib.hid (fun W=>CO.out X W hXs)
     rw [hXd] at CWx COx
     have Hx:=Lib.hid hx
     obtain⟨e0,e1,e2,e3⟩:=CN.out _ HB.out
     clear hcell hX hD hXd hXs hxp hx
     cases b with
     | true =>
      obtain⟨hbe,hall⟩:=hb1 rfl
      have HI:=Lib.hid (And.intro hbe.succ hall)
      have HOrd:=Lib.hid (hbe i x (Nat.le_refl _) Hx.out)
      clear hb0 hb1 hbe hall
      cases hw:NP.withinL x.path p with
      | true =>
       rw [hw] at CWx
       have HK:=Lib.hid (outK_in (v:=v) (b:=true) Hx.out hw)
       clear hw
       repeat (first
        | (go_at_call 100;refine (CWx.out _).mono ?_;rintro r w7 ⟨rfl,hb⟩;simp only [];have HO7:=Lib.hid (owns_below HO.out hb);have HB7:=Lib.hid (Below.trans HB.out (hb.mono hbs));have hs7:=HB7.out.size;obtain⟨f0,f1,f2,f3⟩:=CN.out _ HB7.out;clear hb)
        | go_skip|go_guarded|go_step|go_upon)
       refine⟨PutInv.of (i+1) true (by go_num) rfl (by omega) ?_ (fun h=>by cases h) (fun _=>HI.out) HB7.out,by simp [Go.RowKit.intOf]<;>omega⟩
       rw [HK.out]
       exact HO7.out
      | false =>
       rw [hw] at CWx
       have HK:=Lib.hid (outK_high (v:=v) Hx.out hw HOrd.out)
       clear hw
       repeat (first
        | (go_at_call 100;refine (CWx.out _).mono ?_;rintro r w7 ⟨rfl,hb⟩;simp only [];have HO7:=Lib.hid (owns_below HO.out hb);have HB7:=Lib.hid (Below.trans HB.out (hb.mono hbs));have hs7:=HB7.out.size;obtain⟨f0,f1,f2,f3⟩:=CN.out _ HB7.out;clear hb)
        | (at_builtin;refine wpList_append_own _ rfl _ _ 22 rfl w.heap.size 45 i0 (ndVal zeroN) 4 48 Tryz.underlying22 hi hz0 hz1 hz2 rfl (by decide) _ _ _ rfl (HO7.out.alloc _) ⟨w7.heap.size,0,none⟩ 1 1 (ndCells x) rfl rfl (HNew.out _) (nd_one _) (by have:=HKl.out;unfold maxLen;omega) (by have:=HKl.out;omega) (by simp;omega) ?_;intro v' w9 hown' hgrow9 hnil9;have HO9:=Lib.hid hown';have HB9:=Lib.hid ((HB7.out.alloc hs7 _).grown hgrow9 (by simp;omega) (fun j hj=>(HO7.out.lt j hj).1));clear hown' hgrow9 hnil9)
        | go_skip|go_guarded|go_step|go_upon)
       refine⟨PutInv.of (i+1) true (by go_num) rfl (by omega) ?_ (fun h=>by cases h) (fun _=>HI.out) HB9.out,by simp [Go.RowKit.intOf]<;>omega⟩
       rw [HK.out,List.length_append,List.length_singleton,nodes_snoc]
       exact HO9.out
     | false =>
      have HA:=Lib.hid (hb0 rfl).2
      clear hb0 hb1
      obtain⟨z,hz⟩:∃ z,NP.ordL x.path p=z:=⟨_,rfl⟩
      rw [hz] at COx
      by_cases hzn:z<0
      ·have HI:Hid (i+1<=n/\Ahead ts p (i+1)):=Lib.hid ⟨hin,HA.out.succ Hx.out (by rw [hz];exact hzn)⟩
       have HOrd:Hid (NP.ordL x.path p<0):=Lib.hid (by rw [hz];exact hzn)
       have hzb:¬ 0<=z:=by omega
       clear hz
       cases hw:NP.withinL x.path p with
       | true =>
        rw [hw] at CWx
        have HK:=Lib.hid (outK_in (v:=v) (b:=false) Hx.out hw)
        clear hw
        repeat (first
         | (go_at_call 100;refine (CWx.out _).mono ?_;rintro r w7 ⟨rfl,hb⟩;simp only [];have HO7:=Lib.hid (owns_below HO6.out hb);have HB7:=Lib.hid (Below.trans HB6.out (hb.mono hs6));have hs7:=HB7.out.size;obtain⟨f0,f1,f2,f3⟩:=CN.out _ HB7.out;clear hb)
         | (go_at_call 90;refine (COx.out _).mono ?_;rintro r w6 ⟨rfl,hb⟩;simp only [];have HO6:=Lib.hid (owns_below HO.out hb);have HB6:=Lib.hid (Below.trans HB.out (hb.mono hbs));have hs6:=HB6.out.size;obtain⟨j0,j1,j2,j3⟩:=CN.out _ HB6.out;clear hb)
         | go_skip|go_guarded|go_step|go_upon)
        refine⟨PutInv.of (i+1) false (by go_num) rfl (by omega) ?_ (fun _=>HI.out) (fun h=>by cases h) HB7.out,by simp [Go.RowKit.intOf]<;>omega⟩
        rw [HK.out]
        exact HO7.out
       | false =>
        rw [hw] at CWx
        have HK:=Lib.hid (outK_low (v:=v) Hx.out hw HOrd.out)
        clear hw
        repeat (first
         | (go_at_call 100;refine (CWx.out _).mono ?_;rintro r w7 ⟨rfl,hb⟩;simp only [];have HO7:=Lib.hid (owns_below HO6.out hb);have HB7:=Lib.hid (Below.trans HB6.out (hb.mono hs6));have hs7:=HB7.out.size;obtain⟨f0,f1,f2,f3⟩:=CN.out _ HB7.out;clear hb)
         | (go_at_call 90;refine (COx.out _).mono ?_;rintro r w6 ⟨rfl,hb⟩;simp only [];have HO6:=Lib.hid (owns_below HO.out hb);have HB6:=Lib.hid (Below.trans HB.out (hb.mono hbs));have hs6:=HB6.out.size;obtain⟨j0,j1,j2,j3⟩:=CN.out _ HB6.out;clear hb)
         | (at_builtin;refine wpList_append_own _ rfl _ _ 22 rfl w.heap.size 45 i0 (ndVal zeroN) 4 48 Tryz.underlying22 hi hz0 hz1 hz2 rfl (by decide) _ _ _ rfl (HO7.out.alloc _) ⟨w7.heap.size,0,none⟩ 1 1 (ndCells x) rfl rfl (HNew.out _) (nd_one _) (by have:=HKl.out;unfold maxLen;omega) (by have:=HKl.out;omega) (by simp;omega) ?_;intro v' w9 hown' hgrow9 hnil9;have HO9:=Lib.hid hown';have HB9:=Lib.hid ((HB7.out.alloc hs7 _).grown hgrow9 (by simp;omega) (fun j hj=>(HO7.out.lt j hj).1));clear hown' hgrow9 hnil9)
         | go_skip|go_guarded|go_step|go_upon)
        refine⟨PutInv.of (i+1) false (by go_num) rfl (by omega) ?_ (fun _=>HI.out) (fun h=>by cases h) HB9.out,by simp [Go.RowKit.intOf]<;>omega⟩
        rw [HK.out,List.length_append,List.length_singleton,nodes_snoc]
        exact HO9.out
      ·have HOrd:Hid (¬ NP.ordL x.path p<0):=Lib.hid (by rw [hz];exact hzn)
       have hzb:0<=z:=by omega
       clear hz
       repeat (first
        | (go_at_call 90;refine (COx.out _).mono ?_;rintro r w6 ⟨rfl,hb⟩;simp only [];have HO6:=Lib.hid (owns_below HO.out hb);have HB6:=Lib.hid (Below.trans HB.out (hb.mono hbs));have hs6:=HB6.out.size;obtain⟨j0,j1,j2,j3⟩:=CN.out _ HB6.out;clear hb)
        | go_skip|go_guarded|go_step|go_upon)
       go_loopw [8,11,12] (fun s8 s11 _ wq=>ValInv w ts p v i m s8 s11 wq) (fun _ s11 _ _=>m-(Go.RowKit.intOf s11).toNat)
       case atStart=>exact ValInv.of 0 rfl (Nat.zero_le _) (by rw [valK_zero,List.append_nil];exact HO6.out) (PathsK.zero _ _) HB6.out
       case round =>
        obtain⟨k,rfl,hk,hvo,hvq,hvb⟩:=hrel
        obtain⟨wq,rfl⟩:∃ x,x=wr:=⟨_,rfl⟩
        have HVO:=Lib.hid hvo
        have HVB:=Lib.hid hvb
        have HVQ:=Lib.hid hvq
        have hvs:=hvb.size
        have HVK:=Lib.hid (val_sum ts p v i k)
        rw [HN.out,HM.out] at HVK
        clear hvo hvb hvq
        by_cases hlt:k<m
        ·exact absurd hlt (by omega)
        ·have hkz:¬ (k:Int)<m:=by omega
         have HALL:=Lib.hid (paths_all HVQ.out (by rw [HM.out];omega))
         have HOV:=HVO.out
         rw [valK_end (by rw [HM.out];omega),← outK_flip HA.out] at HOV
         have HOV:=Lib.hid HOV
         clear hlt
         obtain⟨l0,l1,l2,l3⟩:=CN.out _ HVB.out
         have HKl:=Lib.hid (outK_len ts p v i true)
         rw [HN.out,HM.out] at HKl
         cases hw:NP.withinL x.path p with
         | true =>
          rw [hw] at CWx
          have HI:=Lib.hid (And.intro (Behind.of HTr.out.sorted Hx.out HOrd.out).succ HALL.out)
          have HK:=Lib.hid (outK_in (v:=v) (b:=true) Hx.out hw)
          clear hw
          repeat (first
           | (go_at_call 100;refine (CWx.out _).mono ?_;rintro r w7 ⟨rfl,hb⟩;simp only [];have HO7:=Lib.hid (owns_below HOV.out hb);have HB7:=Lib.hid (Below.trans HVB.out (hb.mono hvs));have hs7:=HB7.out.size;obtain⟨f0,f1,f2,f3⟩:=CN.out _ HB7.out;clear hb)
           | go_skip|go_guarded|go_step|go_upon)
          refine⟨PutInv.of (i+1) true (by go_num) rfl (by omega) ?_ (fun h=>by cases h) (fun _=>HI.out) HB7.out,by simp [Go.RowKit.intOf]<;>omega⟩
          rw [HK.out]
          exact HO7.out
         | false =>
          rw [hw] at CWx
          have HI:=Lib.hid (And.intro (Behind.of HTr.out.sorted Hx.out HOrd.out).succ HALL.out)
          have HK:=Lib.hid (outK_high (v:=v) Hx.out hw HOrd.out)
          clear hw
          repeat (first
           | (go_at_call 100;refine (CWx.out _).mono ?_;rintro r w7 ⟨rfl,hb⟩;simp only [];have HO7:=Lib.hid (owns_below HOV.out hb);have HB7:=Lib.hid (Below.trans HVB.out (hb.mono hvs));have hs7:=HB7.out.size;obtain⟨f0,f1,f2,f3⟩:=CN.out _ HB7.out;clear hb)
           | (at_builtin;refine wpList_append_own _ rfl _ _ 22 rfl w.heap.size 45 i0 (ndVal zeroN) 4 48 Tryz.underlying22 hi hz0 hz1 hz2 rfl (by decide) _ _ _ rfl (HO7.out.alloc _) ⟨w7.heap.size,0,none⟩ 1 1 (ndCells x) rfl rfl (HNew.out _) (nd_one _) (by have:=HKl.out;unfold maxLen;omega) (by have:=HKl.out;omega) (by simp;omega) ?_;intro v' w9 hown' hgrow9 hnil9;have HO9:=Lib.hid hown';have HB9:=Lib.hid ((HB7.out.alloc hs7 _).grown hgrow9 (by simp;omega) (fun j hj=>(HO7.out.lt j hj).1));clear hown' hgrow9 hnil9)
           | go_skip|go_guarded|go_step|go_upon)
          refine⟨PutInv.of (i+1) true (by go_num) rfl (by omega) ?_ (fun h=>by cases h) (fun _=>HI.out) HB9.out,by simp [Go.RowKit.intOf]<;>omega⟩
          rw [HK.out,List.length_append,List.length_singleton,nodes_snoc]
          exact HO9.out
    ·obtain rfl:i=n:=by omega
     cases b with
     | true =>
      have HI:=Lib.hid (hb1 rfl).2
      clear hb0 hb1
      repeat (first
       | go_skip
       | go_skip|go_guarded|go_step|go_upon)
      refine⟨PutInv.of (i+1) true (by go_num) rfl (by omega) ?_ (fun h=>by cases h) (fun _=>⟨(Behind.last (by rw [HN.out];omega)),HI.out⟩) HB.out,by simp [Go.RowKit.intOf]<;>omega⟩
      rw [outK_end (by rw [HN.out];omega),← outK_end (t:=ts) (p:=p) (v:=v) (i:=i) (by rw [HN.out];omega)]
      exact HO.out
     | false =>
      have HA:=Lib.hid (hb0 rfl).2
      clear hb0 hb1
      repeat (first
       | go_skip
       | go_skip|go_guarded|go_step|go_upon)
      go_loopw [8,11,12] (fun s8 s11 _ wq=>ValInv w ts p v i m s8 s11 wq) (fun _ s11 _ _=>m-(Go.RowKit.intOf s11).toNat)
      case atStart=>exact ValInv.of 0 rfl (Nat.zero_le _) (by rw [valK_zero,List.append_nil];exact HO.out) (PathsK.zero _ _) HB.out
      case round =>
       obtain⟨k,rfl,hk,hvo,hvq,hvb⟩:=hrel
       obtain⟨wq,rfl⟩:∃ x,x=wr:=⟨_,rfl⟩
       have HVO:=Lib.hid hvo
       have HVB:=Lib.hid hvb
       have HVQ:=Lib.hid hvq
       have hvs:=hvb.size
       have HVK:=Lib.hid (val_sum ts p v i k)
       rw [HN.out,HM.out] at HVK
       clear hvo hvb hvq
       by_cases hlt:k<m
       ·exact absurd hlt (by omega)
       ·have hkz:¬ (k:Int)<m:=by omega
        have HALL:=Lib.hid (paths_all HVQ.out (by rw [HM.out];omega))
        have HOV:=HVO.out
        rw [valK_end (by rw [HM.out];omega),← outK_flip HA.out] at HOV
        have HOV:=Lib.hid HOV
        clear hlt
        repeat (first
         | go_skip
         | go_skip|go_guarded|go_step|go_upon)
        refine⟨PutInv.of (i+1) true (by go_num) rfl (by omega) ?_ (fun h=>by cases h) (fun _=>⟨(Behind.last (by rw [HN.out];omega)),HALL.out⟩) HVB.out,by simp [Go.RowKit.intOf]<;>omega⟩
        rw [outK_end (by rw [HN.out];omega),← outK_end (t:=ts) (p:=p) (v:=v) (i:=i) (by rw [HN.out];omega)]
        exact HOV.out
   ·have hiz:¬ (i:Int)<=n:=by omega
    cases b with
    | false=>exact absurd (hb0 rfl).1 hile
    | true =>
     have hall:=(hb1 rfl).2
     have HK:=Lib.hid (outK_end (t:=ts) (p:=p) (v:=v) (i:=i) (by rw [HN.out];omega))
     obtain⟨a8,k8,rfl,_⟩:=owns_view ho
     obtain⟨q,hq⟩:∃ q,(outK ts p v i true).length=q:=⟨_,rfl⟩
     have hql:q<=3000:=by have:=HKl.out;omega
     have HQ:=Lib.hid hq
     rw [hq] at HO ho ⊢
     by_cases hbig:1000<q
     ·have HF:Hid (putL ts p v=([],32)):=Lib.hid (HP.out.trans ((if_neg (by rw [hall];simp)).trans (if_pos (by rw [<- HK.out,hq];exact hbig))))
      have hbz:(1000:Int)<q:=by omega
      clear hall hq ho hb hb0 hb1
      repeat (first
       | go_skip
       | go_skip|go_guarded|go_step|go_upon)
      go_ret2
      exact PutPost.nil HF.out rfl HB.out
     ·have HF:Hid (putL ts p v=(outL ts p v,0)):=Lib.hid (HP.out.trans ((if_neg (by rw [hall];simp)).trans (if_neg (by rw [<- HK.out,hq];exact hbig))))
      have hbz:¬ (1000:Int)<q:=by omega
      clear hall hq ho hb hb0 hb1
      repeat (first
       | go_skip
       | go_skip|go_guarded|go_step|go_upon)
      go_ret2
      refine⟨_,by rw [HF.out];rfl,?_,HB.out⟩
      rw [HF.out,← HK.out,HQ.out]
      exact HO.out
 ·have mz:(0:Int)<m:=by omega
  have mz':0<m:=by omega
  rw [hd.resolve_left (fun e=>m0 (hm0.2 e))] at c5
  have C5:=Lib.hid c5
  clear hd hm0 c5 m0
  go_enter Tryz.func208,Tryz.ntmps208
  repeat (first
   | (go_at_call 24;refine C1.out.mono ?_;rintro r w1 ⟨rfl,hb⟩;simp only [];have B1:=Lib.hid hb;clear hb)
   | (go_at_call 242;refine (C2.out _ B1.out).mono ?_;rintro r w2 ⟨rfl,hb⟩;simp only [];have B2:=Lib.hid (Below.trans B1.out (hb.mono B1.out.size));clear hb)
   | (go_at_call 86;refine (C3.out _).mono ?_;rintro r w3 ⟨rfl,hb⟩;simp only [];have B3:=Lib.hid (Below.trans B2.out (hb.mono B2.out.size));clear hb)
   | (go_at_call 89;refine (C4.out _).mono ?_;rintro r w4 ⟨rfl,hb⟩;simp only [];have B4:=Lib.hid (Below.trans B3.out (hb.mono B3.out.size));clear hb)
   | (go_at_call 88;refine (C5.out _ B4.out).mono ?_;rintro r w5 ⟨rfl,hb⟩;simp only [];have B5:=Lib.hid (Below.trans B4.out (hb.mono B4.out.size));clear hb)
   | go_skip|go_guarded|go_step|go_upon)
  go_loopw [8,9,10,11,12] (fun s8 s9 s10 _ _ wr=>PutInv w ts p v n s8 s9 s10 wr) (fun _ _ s10 _ _ _=>n+1-(Go.RowKit.intOf s10).toNat)
  case atStart=>exact PutInv.of 0 false rfl rfl (by omega) (World.ownsRow_nil _ _ _ _) (fun _=>⟨Nat.zero_le _,Ahead.zero _ _⟩) (fun h=>by cases h) B5.out
  case round =>
   obtain⟨i,b,rfl,rfl,hi1,ho,hb0,hb1,hb⟩:=hrel
   obtain⟨wo,rfl⟩:∃ x,x=wr:=⟨_,rfl⟩
   have HO:=Lib.hid ho
   have HB:=Lib.hid hb
   have hbs:=hb.size
   have HKl:=Lib.hid (outK_len ts p v i b)
   rw [HN.out,HM.out] at HKl
   by_cases hile:i<=n
   ·have hiz:(i:Int)<=n:=by omega
    clear ho hb
    by_cases hin:i<n
    ·have hinz:(i:Int)<n:=by omega
     have hine:((i:Int)==n)=false:=by simp;omega
     have hinq:¬ (i:Int)=n:=by omega
     obtain⟨g,o,rfl,hg,hcell⟩:=HL.out (by rw [HN.out];omega)
     obtain⟨x,hx⟩:∃ x,ts[i]?=some x:=⟨ts[i]'(by rw [HN.out];exact hin),List.getElem?_eq_getElem _⟩
     have hxp:=HTr.out.path x (List.mem_of_getElem? hx)
     obtain⟨X,hX,hXd⟩:=txt_is x.path
     obtain⟨D,hD,_⟩:=txt_is x.data
     have hXs:X.size<=1048576:=by rw [Lib.size_eq,hXd];have:=((path_iff x.path).1 hxp).1;omega
     have CN:=Lib.hid (lay_cell hg hcell hx hX hD)
     have HNew:Hid (∀ W:World,∀ (j:Nat) (u:Value),(ndCells x)[j]?=some u->(W.alloc (.cells #[.string X,.int .i64 x.kind,.string D,.int .i64 x.mode] 45)).cell? ((⟨W.heap.size,0,none⟩:Addr).add j)=some u):=Lib.hid (fun W=>four_new W _ rfl x _ _ hX hD _)
     have CWx:=Lib.hid (fun W=>CW.out X W hXs)
     have COx:=Lib.hid (fun W=>CO.out X W hXs)
     rw [hXd] at CWx COx
     have Hx:=Lib.hid hx
     obtain⟨e0,e1,e2,e3⟩:=CN.out _ HB.out
     clear hcell hX hD hXd hXs hxp hx
     cases b with
     | true =>
      obtain⟨hbe,hall⟩:=hb1 rfl
      have HI:=Lib.hid (And.intro hbe.succ hall)
      have HOrd:=Lib.hid (hbe i x (Nat.le_refl _) Hx.out)
      clear hb0 hb1 hbe hall
      cases hw:NP.withinL x.path p with
      | true =>
       rw [hw] at CWx
       have HK:=Lib.hid (outK_in (v:=v) (b:=true) Hx.out hw)
       clear hw
       repeat (first
        | (go_at_call 100;refine (CWx.out _).mono ?_;rintro r w7 ⟨rfl,hb⟩;simp only [];have HO7:=Lib.hid (owns_below HO.out hb);have HB7:=Lib.hid (Below.trans HB.out (hb.mono hbs));have hs7:=HB7.out.size;obtain⟨f0,f1,f2,f3⟩:=CN.out _ HB7.out;clear hb)
        | go_skip|go_guarded|go_step|go_upon)
       refine⟨PutInv.of (i+1) true (by go_num) rfl (by omega) ?_ (fun h=>by cases h) (fun _=>HI.out) HB7.out,by simp [Go.RowKit.intOf]<;>omega⟩
       rw [HK.out]
       exact HO7.out
      | false =>
       rw [hw] at CWx
       have HK:=Lib.hid (outK_high (v:=v) Hx.out hw HOrd.out)
       clear hw
       repeat (first
        | (go_at_call 100;refine (CWx.out _).mono ?_;rintro r w7 ⟨rfl,hb⟩;simp only [];have HO7:=Lib.hid (owns_below HO.out hb);have HB7:=Lib.hid (Below.trans HB.out (hb.mono hbs));have hs7:=HB7.out.size;obtain⟨f0,f1,f2,f3⟩:=CN.out _ HB7.out;clear hb)
        | (at_builtin;refine wpList_append_own _ rfl _ _ 22 rfl w.heap.size 45 i0 (ndVal zeroN) 4 48 Tryz.underlying22 hi hz0 hz1 hz2 rfl (by decide) _ _ _ rfl (HO7.out.alloc _) ⟨w7.heap.size,0,none⟩ 1 1 (ndCells x) rfl rfl (HNew.out _) (nd_one _) (by have:=HKl.out;unfold maxLen;omega) (by have:=HKl.out;omega) (by simp;omega) ?_;intro v' w9 hown' hgrow9 hnil9;have HO9:=Lib.hid hown';have HB9:=Lib.hid ((HB7.out.alloc hs7 _).grown hgrow9 (by simp;omega) (fun j hj=>(HO7.out.lt j hj).1));clear hown' hgrow9 hnil9)
        | go_skip|go_guarded|go_step|go_upon)
       refine⟨PutInv.of (i+1) true (by go_num) rfl (by omega) ?_ (fun h=>by cases h) (fun _=>HI.out) HB9.out,by simp [Go.RowKit.intOf]<;>omega⟩
       rw [HK.out,List.length_append,List.length_singleton,nodes_snoc]
       exact HO9.out
     | false =>
      have HA:=Lib.hid (hb0 rfl).2
      clear hb0 hb1
      obtain⟨z,hz⟩:∃ z,NP.ordL x.path p=z:=⟨_,rfl⟩
      rw [hz] at COx
      by_cases hzn:z<0
      ·have HI:Hid (i+1<=n/\Ahead ts p (i+1)):=Lib.hid ⟨hin,HA.out.succ Hx.out (by rw [hz];exact hzn)⟩
       have HOrd:Hid (NP.ordL x.path p<0):=Lib.hid (by rw [hz];exact hzn)
       have hzb:¬ 0<=z:=by omega
       clear hz
       cases hw:NP.withinL x.path p with
       | true =>
        rw [hw] at CWx
        have HK:=Lib.hid (outK_in (v:=v) (b:=false) Hx.out hw)
        clear hw
        repeat (first
         | (go_at_call 100;refine (CWx.out _).mono ?_;rintro r w7 ⟨rfl,hb⟩;simp only [];have HO7:=Lib.hid (owns_below HO6.out hb);have HB7:=Lib.hid (Below.trans HB6.out (hb.mono hs6));have hs7:=HB7.out.size;obtain⟨f0,f1,f2,f3⟩:=CN.out _ HB7.out;clear hb)
         | (go_at_call 90;refine (COx.out _).mono ?_;rintro r w6 ⟨rfl,hb⟩;simp only [];have HO6:=Lib.hid (owns_below HO.out hb);have HB6:=Lib.hid (Below.trans HB.out (hb.mono hbs));have hs6:=HB6.out.size;obtain⟨j0,j1,j2,j3⟩:=CN.out _ HB6.out;clear hb)
         | go_skip|go_guarded|go_step|go_upon)
        refine⟨PutInv.of (i+1) false (by go_num) rfl (by omega) ?_ (fun _=>HI.out) (fun h=>by cases h) HB7.out,by simp [Go.RowKit.intOf]<;>omega⟩
        rw [HK.out]
        exact HO7.out
       | false =>
        rw [hw] at CWx
        have HK:=Lib.hid (outK_low (v:=v) Hx.out hw HOrd.out)
        clear hw
        repeat (first
         | (go_at_call 100;refine (CWx.out _).mono ?_;rintro r w7 ⟨rfl,hb⟩;simp only [];have HO7:=Lib.hid (owns_below HO6.out hb);have HB7:=Lib.hid (Below.trans HB6.out (hb.mono hs6));have hs7:=HB7.out.size;obtain⟨f0,f1,f2,f3⟩:=CN.out _ HB7.out;clear hb)
         | (go_at_call 90;refine (COx.out _).mono ?_;rintro r w6 ⟨rfl,hb⟩;simp only [];have HO6:=Lib.hid (owns_below HO.out hb);have HB6:=Lib.hid (Below.trans HB.out (hb.mono hbs));have hs6:=HB6.out.size;obtain⟨j0,j1,j2,j3⟩:=CN.out _ HB6.out;clear hb)
         | (at_builtin;refine wpList_append_own _ rfl _ _ 22 rfl w.heap.size 45 i0 (ndVal zeroN) 4 48 Tryz.underlying22 hi hz0 hz1 hz2 rfl (by decide) _ _ _ rfl (HO7.out.alloc _) ⟨w7.heap.size,0,none⟩ 1 1 (ndCells x) rfl rfl (HNew.out _) (nd_one _) (by have:=HKl.out;unfold maxLen;omega) (by have:=HKl.out;omega) (by simp;omega) ?_;intro v' w9 hown' hgrow9 hnil9;have HO9:=Lib.hid hown';have HB9:=Lib.hid ((HB7.out.alloc hs7 _).grown hgrow9 (by simp;omega) (fun j hj=>(HO7.out.lt j hj).1));clear hown' hgrow9 hnil9)
         | go_skip|go_guarded|go_step|go_upon)
        refine⟨PutInv.of (i+1) false (by go_num) rfl (by omega) ?_ (fun _=>HI.out) (fun h=>by cases h) HB9.out,by simp [Go.RowKit.intOf]<;>omega⟩
        rw [HK.out,List.length_append,List.length_singleton,nodes_snoc]
        exact HO9.out
      ·have HOrd:Hid (¬ NP.ordL x.path p<0):=Lib.hid (by rw [hz];exact hzn)
       have hzb:0<=z:=by omega
       clear hz
       repeat (first
        | (go_at_call 90;refine (COx.out _).mono ?_;rintro r w6 ⟨rfl,hb⟩;simp only [];have HO6:=Lib.hid (owns_below HO.out hb);have HB6:=Lib.hid (Below.trans HB.out (hb.mono hbs));have hs6:=HB6.out.size;obtain⟨j0,j1,j2,j3⟩:=CN.out _ HB6.out;clear hb)
        | go_skip|go_guarded|go_step|go_upon)
       go_loopw [8,11,12] (fun s8 s11 _ wq=>ValInv w ts p v i m s8 s11 wq) (fun _ s11 _ _=>m-(Go.RowKit.intOf s11).toNat)
       case atStart=>exact ValInv.of 0 rfl (Nat.zero_le _) (by rw [valK_zero,List.append_nil];exact HO6.out) (PathsK.zero _ _) HB6.out
       case round =>
        obtain⟨k,rfl,hk,hvo,hvq,hvb⟩:=hrel
        obtain⟨wq,rfl⟩:∃ x,x=wr:=⟨_,rfl⟩
        have HVO:=Lib.hid hvo
        have HVB:=Lib.hid hvb
        have HVQ:=Lib.hid hvq
        have hvs:=hvb.size
        have HVK:=Lib.hid (val_sum ts p v i k)
        rw [HN.out,HM.out] at HVK
        clear hvo hvb hvq
        by_cases hlt:k<m
        ·have hkz:(k:Int)<m:=by omega
         obtain⟨g2,o2,rfl,hg2,hcell2⟩:=HV.out (by rw [HM.out];omega)
         obtain⟨y,hy⟩:∃ y,v[k]?=some y:=⟨v[k]'(by rw [HM.out];exact hlt),List.getElem?_eq_getElem _⟩
         obtain⟨Y,hY,hYd⟩:=txt_is y.path
         obtain⟨D2,hD2,_⟩:=txt_is y.data
         obtain⟨Q,hQ,hQd⟩:=txt_is (place p y.path)
         have hya:=val_at HVv.out hy
         have hyl:=val_short HVv.out (List.mem_of_getElem? hy)
         have hYs:Y.size<=400:=by rw [Lib.size_eq,hYd];exact hyl
         have hQs:Q.size<=1048576:=by rw [Lib.size_eq,hQd];have h1:=place_short p y.path;have:=hSs;rw [Lib.size_eq,HSd.out] at this;omega
         have CV:=Lib.hid (lay_cell hg2 hcell2 hy hY hD2)
         have HNewV:Hid (∀ W:World,∀ (j:Nat) (u:Value),(ndCells (placeN p y))[j]?=some u->(W.alloc (.cells #[.string Q,.int .i64 y.kind,.string D2,.int .i64 y.mode] 45)).cell? ((⟨W.heap.size,0,none⟩:Addr).add j)=some u):=Lib.hid (fun W=>four_new W _ rfl (placeN p y) _ _ hQ hD2 _)
         have CPq:=Lib.hid (fun W=>CP.out Q W hQs)
         rw [hQd] at CPq
         obtain⟨y0,y1,y2,y3⟩:=CV.out _ HVB.out
         have hgq:g2<wq.heap.size:=Nat.lt_of_lt_of_le hg2 hvs
         have HVk:=Lib.hid (valK_succ (p:=p) hy)
         clear hcell2 hY hD2 hQ hyl hQs
         cases hq:NP.pathL (place p y.path) with
         | false =>
          have HF:Hid (putL ts p v=([],11)):=Lib.hid (HP.out.trans (if_pos (paths_no hy hq)))
          have k0:k≠0:=fun e=>by rw [hya.1 e,place_nil,HPp.out] at hq;cases hq
          rw [hq] at CPq
          clear hq
          have hyn:y.path≠[]:=hya.2 k0
          have hkb:((k:Int)==0)=false:=by simp;omega
          have hkc:¬ (k:Int)=0:=by omega
          obtain⟨S1,hS1⟩:∃ S1:ByteArray,S++⟨#[47]⟩=S1:=⟨_,rfl⟩
          have hS1d:S1.data.toList=p++[47]:=by rw [<- hS1];simp [HSd.out]
          have hcat:=txt_cat (C:=Q) hS1d hYd hQd (by rw [place_ne p hyn];simp)
          have hS1s:S1.size<=401:=by rw [Lib.size_eq,hS1d,List.length_append];have:=hSs;rw [Lib.size_eq,HSd.out] at this;simp;omega
          have hcl:S1.size+Y.size<=9223372036854775807:=by omega
          have hcl0:S.size+1<=9223372036854775807:=by omega
          clear hS1d hYd hQd hyn hya hy k0
          repeat (first
           | (go_at_call 86;refine (CPq.out _).mono ?_;rintro r w8 ⟨rfl,hb⟩;simp only [];obtain⟨q0,q1,q2,q3,hb'⟩:=after_new hb;have HO8:=Lib.hid (owns_below HVO.out hb');have HB8:=Lib.hid (Below.trans HVB.out (hb'.mono hvs));have hs8:=HB8.out.size;clear hb hb')
           | go_skip|go_guarded|go_step|go_upon)
          go_ret2
          exact PutPost.nil HF.out rfl HB8.out
         | true =>
          have HQ:=Lib.hid (HVQ.out.succ hy hq)
          rw [hq] at CPq
          clear hq
          by_cases k0:k=0
          ·have hkb:((k:Int)==0)=true:=by simp [k0]
           have hkc:(k:Int)=0:=by omega
           obtain rfl:Q=S:=by
            apply ByteArray.ext
            apply Array.ext'
            rw [hQd,hya.1 k0,place_nil,HSd.out]
           simp only [k0,Nat.zero_mul,Nat.add_zero] at y0 y1 y2 y3
           clear hYd hQd hya hy k0
           repeat (first
            | (go_at_call 86;refine (CPq.out _).mono ?_;rintro r w8 ⟨rfl,hb⟩;simp only [];obtain⟨q0,q1,q2,q3,hb'⟩:=after_new hb;have HO8:=Lib.hid (owns_below HVO.out hb');have HB8:=Lib.hid (Below.trans HVB.out (hb'.mono hvs));have hs8:=HB8.out.size;clear hb hb')
            | (at_builtin;refine wpList_append_own _ rfl _ _ 22 rfl w.heap.size 45 i0 (ndVal zeroN) 4 48 Tryz.underlying22 hi hz0 hz1 hz2 rfl (by decide) _ _ _ rfl (HO8.out.alloc _) ⟨w8.heap.size,0,none⟩ 1 1 (ndCells (placeN p y)) rfl rfl (HNewV.out _) (nd_one _) (by have:=HVK.out;unfold maxLen;omega) (by have:=HVK.out;omega) (by simp;omega) ?_;intro v' w9 hown' hgrow9 hnil9;have HO9:=Lib.hid hown';have HB9:=Lib.hid ((HB8.out.alloc hs8 _).grown hgrow9 (by simp;omega) (fun j hj=>(HO8.out.lt j hj).1));clear hown' hgrow9 hnil9)
            | go_skip|go_guarded|go_step|go_upon)
           refine⟨ValInv.of (k+1) (by go_num) (by omega) ?_ HQ.out HB9.out,by simp [Go.RowKit.intOf]<;>omega⟩
           rw [HVk.out,← List.append_assoc,List.length_append,List.length_singleton,nodes_snoc]
           exact HO9.out
          ·have hyn:y.path≠[]:=hya.2 k0
           have hkb:((k:Int)==0)=false:=by simp;omega
           have hkc:¬ (k:Int)=0:=by omega
           obtain⟨S1,hS1⟩:∃ S1:ByteArray,S++⟨#[47]⟩=S1:=⟨_,rfl⟩
           have hS1d:S1.data.toList=p++[47]:=by rw [<- hS1];simp [HSd.out]
           have hcat:=txt_cat (C:=Q) hS1d hYd hQd (by rw [place_ne p hyn];simp)
           have hS1s:S1.size<=401:=by rw [Lib.size_eq,hS1d,List.length_append];have:=hSs;rw [Lib.size_eq,HSd.out] at this;simp;omega
           have hcl:S1.size+Y.size<=9223372036854775807:=by omega
           have hcl0:S.size+1<=9223372036854775807:=by omega
           clear hS1d hYd hQd hyn hya hy k0
           repeat (first
            | (go_at_call 86;refine (CPq.out _).mono ?_;rintro r w8 ⟨rfl,hb⟩;simp only [];obtain⟨q0,q1,q2,q3,hb'⟩:=after_new hb;have HO8:=Lib.hid (owns_below HVO.out hb');have HB8:=Lib.hid (Below.trans HVB.out (hb'.mono hvs));have hs8:=HB8.out.size;clear hb hb')
            | (at_builtin;refine wpList_append_own _ rfl _ _ 22 rfl w.heap.size 45 i0 (ndVal zeroN) 4 48 Tryz.underlying22 hi hz0 hz1 hz2 rfl (by decide) _ _ _ rfl (HO8.out.alloc _) ⟨w8.heap.size,0,none⟩ 1 1 (ndCells (placeN p y)) rfl rfl (HNewV.out _) (nd_one _) (by have:=HVK.out;unfold maxLen;omega) (by have:=HVK.out;omega) (by simp;omega) ?_;intro v' w9 hown' hgrow9 hnil9;have HO9:=Lib.hid hown';have HB9:=Lib.hid ((HB8.out.alloc hs8 _).grown hgrow9 (by simp;omega) (fun j hj=>(HO8.out.lt j hj).1));clear hown' hgrow9 hnil9)
            | go_skip|go_guarded|go_step|go_upon)
           refine⟨ValInv.of (k+1) (by go_num) (by omega) ?_ HQ.out HB9.out,by simp [Go.RowKit.intOf]<;>omega⟩
           rw [HVk.out,← List.append_assoc,List.length_append,List.length_singleton,nodes_snoc]
           exact HO9.out
        ·have hkz:¬ (k:Int)<m:=by omega
         have HALL:=Lib.hid (paths_all HVQ.out (by rw [HM.out];omega))
         have HOV:=HVO.out
         rw [valK_end (by rw [HM.out];omega),← outK_flip HA.out] at HOV
         have HOV:=Lib.hid HOV
         clear hlt
         obtain⟨l0,l1,l2,l3⟩:=CN.out _ HVB.out
         have HKl:=Lib.hid (outK_len ts p v i true)
         rw [HN.out,HM.out] at HKl
         cases hw:NP.withinL x.path p with
         | true =>
          rw [hw] at CWx
          have HI:=Lib.hid (And.intro (Behind.of HTr.out.sorted Hx.out HOrd.out).succ HALL.out)
          have HK:=Lib.hid (outK_in (v:=v) (b:=true) Hx.out hw)
          clear hw
          repeat (first
           | (go_at_call 100;refine (CWx.out _).mono ?_;rintro r w7 ⟨rfl,hb⟩;simp only [];have HO7:=Lib.hid (owns_below HOV.out hb);have HB7:=Lib.hid (Below.trans HVB.out (hb.mono hvs));have hs7:=HB7.out.size;obtain⟨f0,f1,f2,f3⟩:=CN.out _ HB7.out;clear hb)
           | go_skip|go_guarded|go_step|go_upon)
          refine⟨PutInv.of (i+1) true (by go_num) rfl (by omega) ?_ (fun h=>by cases h) (fun _=>HI.out) HB7.out,by simp [Go.RowKit.intOf]<;>omega⟩
          rw [HK.out]
          exact HO7.out
         | false =>
          rw [hw] at CWx
          have HI:=Lib.hid (And.intro (Behind.of HTr.out.sorted Hx.out HOrd.out).succ HALL.out)
          have HK:=Lib.hid (outK_high (v:=v) Hx.out hw HOrd.out)
          clear hw
          repeat (first
           | (go_at_call 100;refine (CWx.out _).mono ?_;rintro r w7 ⟨rfl,hb⟩;simp only [];have HO7:=Lib.hid (owns_below HOV.out hb);have HB7:=Lib.hid (Below.trans HVB.out (hb.mono hvs));have hs7:=HB7.out.size;obtain⟨f0,f1,f2,f3⟩:=CN.out _ HB7.out;clear hb)
           | (at_builtin;refine wpList_append_own _ rfl _ _ 22 rfl w.heap.size 45 i0 (ndVal zeroN) 4 48 Tryz.underlying22 hi hz0 hz1 hz2 rfl (by decide) _ _ _ rfl (HO7.out.alloc _) ⟨w7.heap.size,0,none⟩ 1 1 (ndCells x) rfl rfl (HNew.out _) (nd_one _) (by have:=HKl.out;unfold maxLen;omega) (by have:=HKl.out;omega) (by simp;omega) ?_;intro v' w9 hown' hgrow9 hnil9;have HO9:=Lib.hid hown';have HB9:=Lib.hid ((HB7.out.alloc hs7 _).grown hgrow9 (by simp;omega) (fun j hj=>(HO7.out.lt j hj).1));clear hown' hgrow9 hnil9)
           | go_skip|go_guarded|go_step|go_upon)
          refine⟨PutInv.of (i+1) true (by go_num) rfl (by omega) ?_ (fun h=>by cases h) (fun _=>HI.out) HB9.out,by simp [Go.RowKit.intOf]<;>omega⟩
          rw [HK.out,List.length_append,List.length_singleton,nodes_snoc]
          exact HO9.out
    ·obtain rfl:i=n:=by omega
     cases b with
     | true =>
      have HI:=Lib.hid (hb1 rfl).2
      clear hb0 hb1
      repeat (first
       | go_skip
       | go_skip|go_guarded|go_step|go_upon)
      refine⟨PutInv.of (i+1) true (by go_num) rfl (by omega) ?_ (fun h=>by cases h) (fun _=>⟨(Behind.last (by rw [HN.out];omega)),HI.out⟩) HB.out,by simp [Go.RowKit.intOf]<;>omega⟩
      rw [outK_end (by rw [HN.out];omega),← outK_end (t:=ts) (p:=p) (v:=v) (i:=i) (by rw [HN.out];omega)]
      exact HO.out
     | false =>
      have HA:=Lib.hid (hb0 rfl).2
      clear hb0 hb1
      repeat (first
       | go_skip
       | go_skip|go_guarded|go_step|go_upon)
      go_loopw [8,11,12] (fun s8 s11 _ wq=>ValInv w ts p v i m s8 s11 wq) (fun _ s11 _ _=>m-(Go.RowKit.intOf s11).toNat)
      case atStart=>exact ValInv.of 0 rfl (Nat.zero_le _) (by rw [valK_zero,List.append_nil];exact HO.out) (PathsK.zero _ _) HB.out
      case round =>
       obtain⟨k,rfl,hk,hvo,hvq,hvb⟩:=hrel
       obtain⟨wq,rfl⟩:∃ x,x=wr:=⟨_,rfl⟩
       have HVO:=Lib.hid hvo
       have HVB:=Lib.hid hvb
       have HVQ:=Lib.hid hvq
       have hvs:=hvb.size
       have HVK:=Lib.hid (val_sum ts p v i k)
       rw [HN.out,HM.out] at HVK
       clear hvo hvb hvq
       by_cases hlt:k<m
       ·have hkz:(k:Int)<m:=by omega
        obtain⟨g2,o2,rfl,hg2,hcell2⟩:=HV.out (by rw [HM.out];omega)
        obtain⟨y,hy⟩:∃ y,v[k]?=some y:=⟨v[k]'(by rw [HM.out];exact hlt),List.getElem?_eq_getElem _⟩
        obtain⟨Y,hY,hYd⟩:=txt_is y.path
        obtain⟨D2,hD2,_⟩:=txt_is y.data
        obtain⟨Q,hQ,hQd⟩:=txt_is (place p y.path)
        have hya:=val_at HVv.out hy
        have hyl:=val_short HVv.out (List.mem_of_getElem? hy)
        have hYs:Y.size<=400:=by rw [Lib.size_eq,hYd];exact hyl
        have hQs:Q.size<=1048576:=by rw [Lib.size_eq,hQd];have h1:=place_short p y.path;have:=hSs;rw [Lib.size_eq,HSd.out] at this;omega
        have CV:=Lib.hid (lay_cell hg2 hcell2 hy hY hD2)
        have HNewV:Hid (∀ W:World,∀ (j:Nat) (u:Value),(ndCells (placeN p y))[j]?=some u->(W.alloc (.cells #[.string Q,.int .i64 y.kind,.string D2,.int .i64 y.mode] 45)).cell? ((⟨W.heap.size,0,none⟩:Addr).add j)=some u):=Lib.hid (fun W=>four_new W _ rfl (placeN p y) _ _ hQ hD2 _)
        have CPq:=Lib.hid (fun W=>CP.out Q W hQs)
        rw [hQd] at CPq
        obtain⟨y0,y1,y2,y3⟩:=CV.out _ HVB.out
        have hgq:g2<wq.heap.size:=Nat.lt_of_lt_of_le hg2 hvs
        have HVk:=Lib.hid (valK_succ (p:=p) hy)
        clear hcell2 hY hD2 hQ hyl hQs
        cases hq:NP.pathL (place p y.path) with
        | false =>
         have HF:Hid (putL ts p v=([],11)):=Lib.hid (HP.out.trans (if_pos (paths_no hy hq)))
         have k0:k≠0:=fun e=>by rw [hya.1 e,place_nil,HPp.out] at hq;cases hq
         rw [hq] at CPq
         clear hq
         have hyn:y.path≠[]:=hya.2 k0
         have hkb:((k:Int)==0)=false:=by simp;omega
         have hkc:¬ (k:Int)=0:=by omega
         obtain⟨S1,hS1⟩:∃ S1:ByteArray,S++⟨#[47]⟩=S1:=⟨_,rfl⟩
         have hS1d:S1.data.toList=p++[47]:=by rw [<- hS1];simp [HSd.out]
         have hcat:=txt_cat (C:=Q) hS1d hYd hQd (by rw [place_ne p hyn];simp)
         have hS1s:S1.size<=401:=by rw [Lib.size_eq,hS1d,List.length_append];have:=hSs;rw [Lib.size_eq,HSd.out] at this;simp;omega
         have hcl:S1.size+Y.size<=9223372036854775807:=by omega
         have hcl0:S.size+1<=9223372036854775807:=by omega
         clear hS1d hYd hQd hyn hya hy k0
         repeat (first
          | (go_at_call 86;refine (CPq.out _).mono ?_;rintro r w8 ⟨rfl,hb⟩;simp only [];obtain⟨q0,q1,q2,q3,hb'⟩:=after_new hb;have HO8:=Lib.hid (owns_below HVO.out hb');have HB8:=Lib.hid (Below.trans HVB.out (hb'.mono hvs));have hs8:=HB8.out.size;clear hb hb')
          | go_skip|go_guarded|go_step|go_upon)
         go_ret2
         exact PutPost.nil HF.out rfl HB8.out
        | true =>
         have HQ:=Lib.hid (HVQ.out.succ hy hq)
         rw [hq] at CPq
         clear hq
         by_cases k0:k=0
         ·have hkb:((k:Int)==0)=true:=by simp [k0]
          have hkc:(k:Int)=0:=by omega
          obtain rfl:Q=S:=by
           apply ByteArray.ext
           apply Array.ext'
           rw [hQd,hya.1 k0,place_nil,HSd.out]
          simp only [k0,Nat.zero_mul,Nat.add_zero] at y0 y1 y2 y3
          clear hYd hQd hya hy k0
          repeat (first
           | (go_at_call 86;refine (CPq.out _).mono ?_;rintro r w8 ⟨rfl,hb⟩;simp only [];obtain⟨q0,q1,q2,q3,hb'⟩:=after_new hb;have HO8:=Lib.hid (owns_below HVO.out hb');have HB8:=Lib.hid (Below.trans HVB.out (hb'.mono hvs));have hs8:=HB8.out.size;clear hb hb')
           | (at_builtin;refine wpList_append_own _ rfl _ _ 22 rfl w.heap.size 45 i0 (ndVal zeroN) 4 48 Tryz.underlying22 hi hz0 hz1 hz2 rfl (by decide) _ _ _ rfl (HO8.out.alloc _) ⟨w8.heap.size,0,none⟩ 1 1 (ndCells (placeN p y)) rfl rfl (HNewV.out _) (nd_one _) (by have:=HVK.out;unfold maxLen;omega) (by have:=HVK.out;omega) (by simp;omega) ?_;intro v' w9 hown' hgrow9 hnil9;have HO9:=Lib.hid hown';have HB9:=Lib.hid ((HB8.out.alloc hs8 _).grown hgrow9 (by simp;omega) (fun j hj=>(HO8.out.lt j hj).1));clear hown' hgrow9 hnil9)
           | go_skip|go_guarded|go_step|go_upon)
          refine⟨ValInv.of (k+1) (by go_num) (by omega) ?_ HQ.out HB9.out,by simp [Go.RowKit.intOf]<;>omega⟩
          rw [HVk.out,← List.append_assoc,List.length_append,List.length_singleton,nodes_snoc]
          exact HO9.out
         ·have hyn:y.path≠[]:=hya.2 k0
          have hkb:((k:Int)==0)=false:=by simp;omega
          have hkc:¬ (k:Int)=0:=by omega
          obtain⟨S1,hS1⟩:∃ S1:ByteArray,S++⟨#[47]⟩=S1:=⟨_,rfl⟩
          have hS1d:S1.data.toList=p++[47]:=by rw [<- hS1];simp [HSd.out]
          have hcat:=txt_cat (C:=Q) hS1d hYd hQd (by rw [place_ne p hyn];simp)
          have hS1s:S1.size<=401:=by rw [Lib.size_eq,hS1d,List.length_append];have:=hSs;rw [Lib.size_eq,HSd.out] at this;simp;omega
          have hcl:S1.size+Y.size<=9223372036854775807:=by omega
          have hcl0:S.size+1<=9223372036854775807:=by omega
          clear hS1d hYd hQd hyn hya hy k0
          repeat (first
           | (go_at_call 86;refine (CPq.out _).mono ?_;rintro r w8 ⟨rfl,hb⟩;simp only [];obtain⟨q0,q1,q2,q3,hb'⟩:=after_new hb;have HO8:=Lib.hid (owns_below HVO.out hb');have HB8:=Lib.hid (Below.trans HVB.out (hb'.mono hvs));have hs8:=HB8.out.size;clear hb hb')
           | (at_builtin;refine wpList_append_own _ rfl _ _ 22 rfl w.heap.size 45 i0 (ndVal zeroN) 4 48 Tryz.underlying22 hi hz0 hz1 hz2 rfl (by decide) _ _ _ rfl (HO8.out.alloc _) ⟨w8.heap.size,0,none⟩ 1 1 (ndCells (placeN p y)) rfl rfl (HNewV.out _) (nd_one _) (by have:=HVK.out;unfold maxLen;omega) (by have:=HVK.out;omega) (by simp;omega) ?_;intro v' w9 hown' hgrow9 hnil9;have HO9:=Lib.hid hown';have HB9:=Lib.hid ((HB8.out.alloc hs8 _).grown hgrow9 (by simp;omega) (fun j hj=>(HO8.out.lt j hj).1));clear hown' hgrow9 hnil9)
           | go_skip|go_guarded|go_step|go_upon)
          refine⟨ValInv.of (k+1) (by go_num) (by omega) ?_ HQ.out HB9.out,by simp [Go.RowKit.intOf]<;>omega⟩
          rw [HVk.out,← List.append_assoc,List.length_append,List.length_singleton,nodes_snoc]
          exact HO9.out
       ·have hkz:¬ (k:Int)<m:=by omega
        have HALL:=Lib.hid (paths_all HVQ.out (by rw [HM.out];omega))
        have HOV:=HVO.out
        rw [valK_end (by rw [HM.out];omega),← outK_flip HA.out] at HOV
        have HOV:=Lib.hid HOV
        clear hlt
        repeat (first
         | go_skip
         | go_skip|go_guarded|go_step|go_upon)
        refine⟨PutInv.of (i+1) true (by go_num) rfl (by omega) ?_ (fun h=>by cases h) (fun _=>⟨(Behind.last (by rw [HN.out];omega)),HALL.out⟩) HVB.out,by simp [Go.RowKit.intOf]<;>omega⟩
        rw [outK_end (by rw [HN.out];omega),← outK_end (t:=ts) (p:=p) (v:=v) (i:=i) (by rw [HN.out];omega)]
        exact HOV.out
   ·have hiz:¬ (i:Int)<=n:=by omega
    cases b with
    | false=>exact absurd (hb0 rfl).1 hile
    | true =>
     have hall:=(hb1 rfl).2
     have HK:=Lib.hid (outK_end (t:=ts) (p:=p) (v:=v) (i:=i) (by rw [HN.out];omega))
     obtain⟨a8,k8,rfl,_⟩:=owns_view ho
     obtain⟨q,hq⟩:∃ q,(outK ts p v i true).length=q:=⟨_,rfl⟩
     have hql:q<=3000:=by have:=HKl.out;omega
     have HQ:=Lib.hid hq
     rw [hq] at HO ho ⊢
     by_cases hbig:1000<q
     ·have HF:Hid (putL ts p v=([],32)):=Lib.hid (HP.out.trans ((if_neg (by rw [hall];simp)).trans (if_pos (by rw [<- HK.out,hq];exact hbig))))
      have hbz:(1000:Int)<q:=by omega
      clear hall hq ho hb hb0 hb1
      repeat (first
       | go_skip
       | go_skip|go_guarded|go_step|go_upon)
      go_ret2
      exact PutPost.nil HF.out rfl HB.out
     ·have HF:Hid (putL ts p v=(outL ts p v,0)):=Lib.hid (HP.out.trans ((if_neg (by rw [hall];simp)).trans (if_neg (by rw [<- HK.out,hq];exact hbig))))
      have hbz:¬ (1000:Int)<q:=by omega
      clear hall hq ho hb hb0 hb1
      repeat (first
       | go_skip
       | go_skip|go_guarded|go_step|go_upon)
      go_ret2
      refine⟨_,by rw [HF.out];rfl,?_,HB.out⟩
      rw [HF.out,← HK.out,HQ.out]
      exact HO.out
end TR
end Go.Proofs.YtmohjalanhnhbaaGreatDoor