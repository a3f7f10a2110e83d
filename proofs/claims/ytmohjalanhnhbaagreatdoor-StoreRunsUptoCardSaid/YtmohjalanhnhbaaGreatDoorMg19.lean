/- Texts of this seat, put one behind the other: what its statements share (part 19). -/
import Derived.Test.YtmohjalanhnhbaaGreatDoorMg18
import Derived.Test.YtmohjalanhnhbaaGreatDoorMg15
import Derived.Test.YtmohjalanhnhbaaGreatDoorMg16
import Derived.Test.YtmohjalanhnhbaaGreatDoorMg13
import Derived.Test.YtmohjalanhnhbaaGreatDoorMg12
import Derived.Test.YtmohjalanhnhbaaGreatDoorRkWo
import Derived.Test.YtmohjalanhnhbaaGreatDoorRkNew
set_option linter.all false
set_option maxRecDepth 100000
set_option maxHeartbeats 25600000
section
namespace Go.Proofs.YtmohjalanhnhbaaGreatDoor
open Go.RowKit Go.Lib Go.BigFrame
namespace RK
open OM TP TM DP DM FP TG TR
open DG (after_no after_yes stampVal fateV)
open _root_.Go.Proofs.YtmohjalanhnhbaaGreatDoor.ST (besideL save1 save2 save3 saveD clear2 clearD loadD)
theorem step_err (D:Dk) (c:Did):(stepD D c).2=75∨(stepD D c).2=70∨(stepD D c).2=0:=by
 unfold stepD
 split
 ·exact .inl rfl
 ·split
  ·exact .inl rfl
  ·split
   ·exact .inr (.inl rfl)
   ·exact .inr (.inr rfl)
theorem V.save1 {D:Dk} (h:RK.V D) (p t:List UInt8):RK.V (ST.save1 D p t).1:=h.write _ _ _
theorem V.then {r:Dk×Int} {f:Dk->Dk×Int} (h:RK.V r.1) (hf:RK.V r.1->RK.V (f r.1).1):RK.V (DP.after r f).1:=by
 unfold DP.after
 split
 ·exact hf h
 ·exact h
theorem V.save2 {D:Dk} (h:RK.V D) (p t:List UInt8):RK.V (ST.save2 D p t).1:=V.then (h.save1 p t) fun h=>h.sync _
theorem V.save3 {D:Dk} (h:RK.V D) (p t:List UInt8):RK.V (ST.save3 D p t).1:=V.then (h.save2 p t) fun h=>h.replace _ _
theorem V.save {D:Dk} (h:RK.V D) (p t:List UInt8):RK.V (saveD D p t).1:=V.then (h.save3 p t) fun h=>h.flush
theorem V.clear {D:Dk} (h:RK.V D) (p:List UInt8):RK.V (clearD D p).1:=V.then (h.remove p) fun h=>h.flush
theorem V.load {D:Dk} (h:RK.V D) (p:List UInt8):RK.V (loadD D p).1:=h.get p
theorem rsave_any (w W:World) (T:Nat->Prop) (Q m:Nat) (D:Dk) (p t:List UInt8) (h:RS w W T Q m D) (hv:RK.V D) (hm:m+4<=1000) (hp:p.length+1<=1048576) :
  Calls Tryz.prog 28 #[.pointer (some ⟨Q,0,none⟩),txt p,txt t] W fun r W'=>r=.returned (.int .i64 (saveD D p t).2)/\RAft w W T Q (m+4) (saveD D p t).1 W':=by
 obtain⟨X,hX,hXd⟩:=txt_of p
 obtain⟨Y,hY,-⟩:=txt_of t
 have hs:¬ 9223372036854775807<X.size+1:=by
  rw [Lib.size_eq,hXd]
  omega
 have hbl:(besideL p).length<=1048576:=by show (p++[126]).length<=_;simp;omega
 have HX:=Lib.hid hX
 have HXd:=Lib.hid hXd
 have HY:=Lib.hid hY
 have HP:=Lib.hid hp
 have HBl:=Lib.hid hbl
 have HV1:=Lib.hid (hv.save1 p t)
 have HV2:=Lib.hid (hv.save2 p t)
 have HV3:=Lib.hid (hv.save3 p t)
 obtain⟨⟨E1,e1⟩,hE1⟩:∃ R,save1 D p t=R:=⟨_,rfl⟩
 obtain⟨⟨E2,e2⟩,hE2⟩:∃ R,save2 D p t=R:=⟨_,rfl⟩
 obtain⟨⟨E3,e3⟩,hE3⟩:∃ R,save3 D p t=R:=⟨_,rfl⟩
 obtain⟨⟨E4,e4⟩,hE4⟩:∃ R,saveD D p t=R:=⟨_,rfl⟩
 rw [hE1] at HV1
 rw [hE2] at HV2
 rw [hE3] at HV3
 have H2:Hid ((e1≠0->E2=E1/\e2=e1)/\(e1=0->syncD E1 (besideL p)=(E2,e2))):=Lib.hid (by
  have h2:=hE2
  unfold save2 at h2
  rw [hE1] at h2
  refine⟨fun h0=>?_,fun h0=>?_⟩
  ·rw [after_no h0] at h2
   simp only [Prod.mk.injEq] at h2
   exact⟨h2.1.symm,h2.2.symm⟩
  ·rw [after_yes h0] at h2
   exact h2)
 have H3:Hid ((e2≠0->E3=E2/\e3=e2)/\(e2=0->replaceD E2 (besideL p) p=(E3,e3))):=Lib.hid (by
  have h2:=hE3
  unfold save3 at h2
  rw [hE2] at h2
  refine⟨fun h0=>?_,fun h0=>?_⟩
  ·rw [after_no h0] at h2
   simp only [Prod.mk.injEq] at h2
   exact⟨h2.1.symm,h2.2.symm⟩
  ·rw [after_yes h0] at h2
   exact h2)
 have H4:Hid ((e3≠0->E4=E3/\e4=e3)/\(e3=0->flushD E3=(E4,e4))):=Lib.hid (by
  have h2:=hE4
  unfold saveD at h2
  rw [hE3] at h2
  refine⟨fun h0=>?_,fun h0=>?_⟩
  ·rw [after_no h0] at h2
   simp only [Prod.mk.injEq] at h2
   exact⟨h2.1.symm,h2.2.symm⟩
  ·rw [after_yes h0] at h2
   exact h2)
 have C1:=kwrite_any w W T Q m D (besideL p) t 384 h hv (by omega) hbl
 rw [show writeD D (besideL p) t 384=(E1,e1) from hE1,← DG.tilde p X hXd,hY] at C1
 have HC1:=Lib.hid C1
 rw [hX,hY,hE4]
 clear h hv hp hX hXd hY hbl hE1 hE2 hE3 hE4 C1
 go_enter Tryz.func28,Tryz.ntmps28
 repeat (first|(go_at_call 76;fail)|go_skip|go_guarded|go_step|go_upon)
 refine HC1.out.mono ?_
 rintro r w1 ⟨rfl,T1,h1,hs1,ho1⟩
 simp only []
 have HG1:Hid (∀ m' D' W',RAft w w1 T1 Q m' D' W'->RAft w W T Q m' D' W'):=Lib.hid (fun m' D' W' hh=>RAft.chain hs1 ho1 hh)
 have A1:=Lib.hid (RAft.mono (n:=m+4) (RAft.chain hs1 ho1 (RAft.same h1)) (by omega))
 by_cases h10:e1=0
 ·have hq2:=H2.out.2 h10
  have C2:=ksync_any w w1 T1 Q (m+1) E1 (besideL p) h1 HV1.out (by omega) HBl.out
  rw [hq2,← DG.tilde p X HXd.out] at C2
  have HC2:=Lib.hid C2
  subst h10
  clear h1 hs1 ho1 hq2 C2
  repeat (first|(go_at_call 82;fail)|go_skip|go_guarded|go_step|go_upon)
  refine HC2.out.mono ?_
  rintro r w2 ⟨rfl,T2,h2,hs2,ho2⟩
  simp only []
  have HG2:Hid (∀ m' D' W',RAft w w2 T2 Q m' D' W'->RAft w W T Q m' D' W'):=Lib.hid (fun m' D' W' hh=>HG1.out _ _ _ (RAft.chain hs2 ho2 hh))
  have A2:=Lib.hid (RAft.mono (n:=m+4) (HG2.out _ _ _ (RAft.same h2)) (by omega))
  by_cases h20:e2=0
  ·have hq3:=H3.out.2 h20
   have C3:=kreplace_any w w2 T2 Q (m+1+1) E2 (besideL p) p h2 HV2.out (by omega) HBl.out (by have:=HP.out;omega)
   rw [hq3,← DG.tilde p X HXd.out,HX.out] at C3
   have HC3:=Lib.hid C3
   subst h20
   clear h2 hs2 ho2 hq3 C3
   repeat (first|(go_at_call 81;fail)|go_skip|go_guarded|go_step|go_upon)
   refine HC3.out.mono ?_
   rintro r w3 ⟨rfl,T3,h3,hs3,ho3⟩
   simp only []
   have HG3:Hid (∀ m' D' W',RAft w w3 T3 Q m' D' W'->RAft w W T Q m' D' W'):=Lib.hid (fun m' D' W' hh=>HG2.out _ _ _ (RAft.chain hs3 ho3 hh))
   have A3:=Lib.hid (RAft.mono (n:=m+4) (HG3.out _ _ _ (RAft.same h3)) (by omega))
   by_cases h30:e3=0
   ·have hq4:=H4.out.2 h30
    have C4:=kflush_any w w3 T3 Q (m+1+1+1) E3 h3 HV3.out (by omega)
    rw [hq4] at C4
    have HC4:=Lib.hid C4
    subst h30
    clear h3 hs3 ho3 hq4 C4
    repeat (first|(go_at_call 83;fail)|go_skip|go_guarded|go_step|go_upon)
    refine HC4.out.mono ?_
    rintro r w4 ⟨rfl,ha4⟩
    simp only []
    have HA4:=Lib.hid (HG3.out _ _ _ ha4)
    clear ha4
    repeat (first|go_skip|go_guarded|go_step|go_upon)
    go_ret
    exact⟨rfl,HA4.out⟩
   ·have hne:(e3 != 0)=true:=by simpa using h30
    have hq:=H4.out.1 h30
    clear h3 hs3 ho3 h30
    repeat (first|go_skip|go_guarded|go_step|go_upon)
    go_ret
    rw [hq.1,hq.2]
    exact⟨rfl,A3.out⟩
  ·have hne:(e2 != 0)=true:=by simpa using h20
   have hq:=H3.out.1 h20
   have hq2:=H4.out.1 (by rw [hq.2];exact h20)
   clear h2 hs2 ho2 h20
   repeat (first|go_skip|go_guarded|go_step|go_upon)
   go_ret
   rw [hq2.1,hq2.2,hq.1,hq.2]
   exact⟨rfl,A2.out⟩
 ·have hne:(e1 != 0)=true:=by simpa using h10
  have hq:=H2.out.1 h10
  have hq2:=H3.out.1 (by rw [hq.2];exact h10)
  have hq3:=H4.out.1 (by rw [hq2.2,hq.2];exact h10)
  clear h1 hs1 ho1 h10
  repeat (first|go_skip|go_guarded|go_step|go_upon)
  go_ret
  rw [hq3.1,hq3.2,hq2.1,hq2.2,hq.1,hq.2]
  exact⟨rfl,A1.out⟩
theorem rclear_any (w W:World) (T:Nat->Prop) (Q m:Nat) (D:Dk) (p:List UInt8) (h:RS w W T Q m D) (hv:RK.V D) (hm:m+2<=1000) (hp:p.length<=1048576) :
  Calls Tryz.prog 32 #[.pointer (some ⟨Q,0,none⟩),txt p] W fun r W'=>r=.returned (.int .i64 (clearD D p).2)/\RAft w W T Q (m+2) (clearD D p).1 W':=by
 obtain⟨X,hX,-⟩:=txt_of p
 have HV1:=Lib.hid (hv.remove p)
 obtain⟨⟨E1,e1⟩,hE1⟩:∃ R,removeD D p=R:=⟨_,rfl⟩
 obtain⟨⟨E2,e2⟩,hE2⟩:∃ R,clear2 D p=R:=⟨_,rfl⟩
 rw [hE1] at HV1
 have H2:Hid ((e1≠0->E2=E1/\e2=e1)/\(e1=0->flushD E1=(E2,e2))):=Lib.hid (by
  have h2:=hE2
  unfold clear2 at h2
  rw [hE1] at h2
  refine⟨fun h0=>?_,fun h0=>?_⟩
  ·rw [after_no h0] at h2
   simp only [Prod.mk.injEq] at h2
   exact⟨h2.1.symm,h2.2.symm⟩
  ·rw [after_yes h0] at h2
   exact h2)
 have hcl:clearD D p=(E2,if e2=74 then 0 else e2):=by unfold clearD;rw [hE2]
 have C1:=kremove_any w W T Q m D p h hv (by omega) hp
 rw [hE1,hX] at C1
 have HC1:=Lib.hid C1
 rw [hX,hcl]
 obtain⟨z,hz⟩:∃ z,(if e2=74 then 0 else e2)=z:=⟨_,rfl⟩
 have HZ:=Lib.hid hz
 rw [hz]
 clear h hv hp hX hE1 hE2 hcl C1 hz
 go_enter Tryz.func32,Tryz.ntmps32
 repeat (first|(go_at_call 79;fail)|go_skip|go_guarded|go_step|go_upon)
 refine HC1.out.mono ?_
 rintro r w1 ⟨rfl,T1,h1,hs1,ho1⟩
 simp only []
 have A1:=Lib.hid (RAft.mono (n:=m+2) (RAft.chain hs1 ho1 (RAft.same h1)) (by omega))
 by_cases h74:e1=74
 ·have hq:=H2.out.1 (by omega)
  have hzz:z=0:=by rw [<- HZ.out,hq.2,if_pos h74]
  subst h74
  clear h1 hs1 ho1
  repeat (first|go_skip|go_guarded|go_step|go_upon)
  go_ret
  rw [hzz,hq.1]
  exact⟨rfl,A1.out⟩
 ·have hn74:(e1==74)=false:=by simpa using h74
  by_cases h10:e1=0
  ·have hq2:=H2.out.2 h10
   have hnf:e2≠74:=by
    have h2:(flushD E1).2=e2:=by rw [hq2]
    rw [<- h2]
    unfold flushD DP.after
    split
    ·show (0:Int)≠74
     decide
    ·have h3:=step_err E1 ⟨cFlush,[],[]⟩
     intro e
     rcases h3 with h4|h4|h4<;>rw [h4] at e<;>cases e
   have hzz:z=e2:=by rw [<- HZ.out,if_neg hnf]
   have C2:=kflush_any w w1 T1 Q (m+1) E1 h1 HV1.out (by omega)
   rw [hq2] at C2
   have HC2:=Lib.hid C2
   have HG1:Hid (∀ m' D' W',RAft w w1 T1 Q m' D' W'->RAft w W T Q m' D' W'):=Lib.hid (fun m' D' W' hh=>RAft.chain hs1 ho1 hh)
   subst h10
   clear h1 hs1 ho1 hq2 C2
   repeat (first|(go_at_call 83;fail)|go_skip|go_guarded|go_step|go_upon)
   refine HC2.out.mono ?_
   rintro r w2 ⟨rfl,ha2⟩
   simp only []
   have HA2:=Lib.hid (HG1.out _ _ _ ha2)
   clear ha2
   repeat (first|go_skip|go_guarded|go_step|go_upon)
   go_ret
   rw [hzz]
   exact⟨rfl,HA2.out⟩
  ·have hne:(e1 != 0)=true:=by simpa using h10
   have hq:=H2.out.1 h10
   have hzz:z=e1:=by rw [<- HZ.out,hq.2,if_neg h74]
   clear h1 hs1 ho1 h10
   repeat (first|go_skip|go_guarded|go_step|go_upon)
   go_ret
   rw [hzz,hq.1]
   exact⟨rfl,A1.out⟩
theorem getD_bad {D:Dk} {p:List UInt8} (h:(DP.getD D p).2.2.2≠0):(DP.getD D p).2.1.data=[]:=by
 unfold DP.getD at h ⊢
 simp only at h ⊢
 split at h
 ·exact absurd rfl h
 ·rename_i h1
  rw [if_neg h1]
  rfl
theorem rload_any (w W:World) (T:Nat->Prop) (Q m:Nat) (D:Dk) (p:List UInt8) (h:RS w W T Q m D) (hv:RK.V D) (hm:m+1<=1000) (hp:p.length<=1048576) :
  Calls Tryz.prog 30 #[.pointer (some ⟨Q,0,none⟩),txt p] W fun r W'=>r=.returned (.tuple #[txt (loadD D p).2.1,.bool (loadD D p).2.2.1,.int .i64 (loadD D p).2.2.2])/\RAft w W T Q (m+1) (loadD D p).1 W':=by
 obtain⟨X,hX,-⟩:=txt_of p
 have hbad:=getD_bad (D:=D) (p:=p)
 have CG:=kget_any w W T Q m D p h hv hm hp
 obtain⟨Z,hZ⟩:∃ Z,DP.getD D p=Z:=⟨_,rfl⟩
 obtain⟨⟨F,Ft,Fb,Fe⟩,hF⟩:∃ F,loadD D p=F:=⟨_,rfl⟩
 have HF0:=hF
 unfold loadD at HF0
 rw [hF]
 rw [hZ] at CG HF0 hbad
 obtain⟨E,⟨np,nk,nd,nm⟩,⟨s1,s2,s3⟩,e⟩:=Z
 obtain⟨X1,hX1,_⟩:=txt_of np
 obtain⟨X2,hX2,_⟩:=txt_of nd
 unfold ndVal stampVal at CG
 simp only [Prod.mk.injEq] at CG HF0 hbad ⊢
 rw [hX1,hX2,hX] at CG
 rw [hX]
 obtain⟨rfl,HF0⟩:=HF0
 have HCG:=Lib.hid CG
 have HR:Hid ((e=74->txt Ft=.string ⟨#[]⟩/\Fb=false/\Fe=0)/\(e≠74->e≠0->txt Ft=.string X2/\Fb=false/\Fe=e)/\(e=0->nk≠1->txt Ft=.string ⟨#[]⟩/\Fb=false/\Fe=73)/\(e=0->nk=1->txt Ft=.string X2/\Fb=true/\Fe=0)):=Lib.hid (by
  refine⟨fun h1=>?_,fun h1 h2=>?_,fun h1 h2=>?_,fun h1 h2=>?_⟩
  ·rw [if_pos h1] at HF0
   simp only [Prod.mk.injEq] at HF0
   obtain⟨rfl,rfl,rfl⟩:=HF0
   exact⟨rfl,rfl,rfl⟩
  ·rw [if_neg h1,if_pos h2] at HF0
   simp only [Prod.mk.injEq] at HF0
   obtain⟨rfl,rfl,rfl⟩:=HF0
   rw [hbad h2] at hX2
   exact⟨hX2,rfl,rfl⟩
  ·rw [if_neg (by omega),if_neg (by omega),if_pos h2] at HF0
   simp only [Prod.mk.injEq] at HF0
   obtain⟨rfl,rfl,rfl⟩:=HF0
   exact⟨rfl,rfl,rfl⟩
  ·rw [if_neg (by omega),if_neg (by omega),if_neg (by omega)] at HF0
   simp only [Prod.mk.injEq] at HF0
   obtain⟨rfl,rfl,rfl⟩:=HF0
   exact⟨hX2,rfl,rfl⟩)
 clear h hv hm hp hX hX1 hX2 hZ hF HF0 hbad CG
 go_enter Tryz.func30,Tryz.ntmps30
 repeat (first|(go_at_call 84;fail)|go_skip|go_guarded|go_step|go_upon)
 refine HCG.out.mono ?_
 rintro r w2 ⟨rfl,ha⟩
 simp only []
 have HA:=Lib.hid ha
 clear ha
 by_cases h74:e=74
 ·obtain⟨z1,rfl,rfl⟩:=HR.out.1 h74
  have Z1:=Lib.hid z1
  subst h74
  clear z1
  repeat (first|go_skip|go_guarded|go_step|go_upon)
  go_ret3
  exact⟨by rw [Z1.out];first|done|rfl,HA.out.later (((Below.refl _ _).alloc (Nat.le_refl _) _).alloc (by simp) _)⟩
 ·have hne:(e==74)=false:=by simpa using h74
  by_cases h0:e=0
  ·subst h0
   by_cases hk:nk=1
   ·obtain⟨z1,rfl,rfl⟩:=HR.out.2.2.2 rfl hk
    have Z1:=Lib.hid z1
    subst hk
    clear z1
    repeat (first|go_skip|go_guarded|go_step|go_upon)
    go_ret3
    exact⟨by rw [Z1.out];first|done|rfl,HA.out.later (((Below.refl _ _).alloc (Nat.le_refl _) _).alloc (by simp) _)⟩
   ·obtain⟨z1,rfl,rfl⟩:=HR.out.2.2.1 rfl hk
    have Z1:=Lib.hid z1
    have hkn:(nk != 1)=true:=by simpa using hk
    clear z1
    repeat (first|go_skip|go_guarded|go_step|go_upon)
    go_ret3
    exact⟨by rw [Z1.out];first|done|rfl,HA.out.later (((Below.refl _ _).alloc (Nat.le_refl _) _).alloc (by simp) _)⟩
  ·obtain⟨z1,rfl,z3⟩:=HR.out.2.1 h74 h0
   have Z1:=Lib.hid z1
   have hkn:(e==0)=false:=by simpa using h0
   subst z3
   clear z1
   repeat (first|go_skip|go_guarded|go_step|go_upon)
   go_ret3
   exact⟨by rw [Z1.out];first|done|rfl,HA.out.later (((Below.refl _ _).alloc (Nat.le_refl _) _).alloc (by simp) _)⟩
end RK
end Go.Proofs.YtmohjalanhnhbaaGreatDoor
end

section
namespace Go.Proofs.YtmohjalanhnhbaaGreatDoor
open Go.RowKit Go.Lib Go.BigFrame
namespace RK
open OM TP TM DP DM FP TG TR
open DG (Aft DS)
def PrB (w W:World) (P Q m:Nat) (D:Dk) (n:Nat) (E:Dk) (b:Nat) (o:Obj):Prop :=
 ∃ S T,DS w W S P m D/\RS w W T Q n E/\P≠Q/\¬ S Q/\¬ T P/\(∀ k,S k->¬ T k)/\W.heap[b]?=some o/\¬ S b/\b≠P/\¬ T b/\b≠Q
def Pr (w W:World) (P Q m:Nat) (D:Dk) (n:Nat) (E:Dk):Prop :=
 ∃ S T,DS w W S P m D/\RS w W T Q n E/\P≠Q/\¬ S Q/\¬ T P/\∀ k,S k->¬ T k
theorem PrB.pr {w W:World} {P Q m n b:Nat} {D E:Dk} {o:Obj} (h:PrB w W P Q m D n E b o):Pr w W P Q m D n E:=by
 obtain⟨S,T,h1,h2,h3,h4,h5,h6,_⟩:=h
 exact⟨S,T,h1,h2,h3,h4,h5,h6⟩
theorem Pr.below {w W W':World} {P Q m n:Nat} {D E:Dk} (h:Pr w W P Q m D n E) (hb:Below W.heap.size W W'):Pr w W' P Q m D n E:=by
 obtain⟨S,T,h1,h2,h3,h4,h5,h6⟩:=h
 exact⟨S,T,h1.below hb,h2.below hb,h3,h4,h5,h6⟩
theorem PrB.below {w W W':World} {P Q m n b:Nat} {D E:Dk} {o:Obj} (h:PrB w W P Q m D n E b o) (hb:Below W.heap.size W W'):PrB w W' P Q m D n E b o:=by
 obtain⟨S,T,h1,h2,h3,h4,h5,h6,h7,h8⟩:=h
 exact⟨S,T,h1.below hb,h2.below hb,h3,h4,h5,h6,(hb.block _ (Array.getElem?_eq_some_iff.1 h7).1).trans h7,h8⟩
theorem Pr.bel {w W:World} {P Q m n:Nat} {D E:Dk} (h:Pr w W P Q m D n E):Below w.heap.size w W:=by
 obtain⟨S,T,h1,_⟩:=h
 exact h1.bel
theorem Pr.box {w W:World} {P Q m n:Nat} {D E:Dk} (h:Pr w W P Q m D n E) (o:Obj) {o':Obj} (ho:(W.alloc o).heap[W.heap.size]?=some o'):PrB w (W.alloc o) P Q m D n E W.heap.size o':=by
 obtain⟨S,T,h1,h2,h3,h4,h5,h6⟩:=h
 have hb:Below W.heap.size W (W.alloc o):=(Below.refl _ _).alloc (Nat.le_refl _) _
 obtain⟨l1,l2⟩:=h1.lt
 obtain⟨l3,l4⟩:=h2.lts
 exact⟨S,T,h1.below hb,h2.below hb,h3,h4,h5,h6,ho,fun hh=>absurd (l2 _ hh) (by omega),by omega,fun hh=>absurd (l4 _ hh) (by omega),by omega⟩
theorem PrB.left {w W:World} {P Q m n b:Nat} {D E:Dk} {o:Obj} (h:PrB w W P Q m D n E b o) {f:FuncId} {args:Array Value} {R:Ending} {m':Nat} {D':Dk}
  (hc:∀ S,DS w W S P m D->Calls Tryz.prog f args W fun r W'=>r=R/\Aft w W S P m' D' W'):Calls Tryz.prog f args W fun r W'=>r=R/\PrB w W' P Q m' D' n E b o:=by
 obtain⟨S,T,h1,h2,h3,h4,h5,h6,h7,h8,h9,h10,h11⟩:=h
 refine (hc S h1).mono ?_
 rintro r W' ⟨hr,S',d',s',o'⟩
 obtain⟨l3,l4⟩:=h2.lts
 have lb:=(Array.getElem?_eq_some_iff.1 h7).1
 refine⟨hr,S',T,d',h2.out o' (fun k hk=>?_),h3,fun hh=>?_,h5,fun k hk hT=>?_,o'.row h7 (fun hh=>hh.elim h8 h9),fun hh=>?_,h9,h10,h11⟩
 ·rcases hk with hk|hk
  ·exact⟨h6 k hk,fun e=>h4 (e ▸ hk),h1.lo k hk⟩
  ·exact⟨hk ▸ h5,hk ▸ h3,hk ▸ h1.pl⟩
 ·rcases s' Q hh with h|h
  ·exact h4 h
  ·omega
 ·rcases s' k hk with h|h
  ·exact h6 k h hT
  ·have:=l4 k hT;omega
 ·rcases s' b hh with h|h
  ·exact h8 h
  ·omega
theorem PrB.right {w W:World} {P Q m n b:Nat} {D E:Dk} {o:Obj} (h:PrB w W P Q m D n E b o) {f:FuncId} {args:Array Value} {R:Ending} {n':Nat} {E':Dk}
  (hc:∀ T,RS w W T Q n E->Calls Tryz.prog f args W fun r W'=>r=R/\RAft w W T Q n' E' W'):Calls Tryz.prog f args W fun r W'=>r=R/\PrB w W' P Q m D n' E' b o:=by
 obtain⟨S,T,h1,h2,h3,h4,h5,h6,h7,h8,h9,h10,h11⟩:=h
 refine (hc T h2).mono ?_
 rintro r W' ⟨hr,T',d',s',o'⟩
 obtain⟨l1,l2⟩:=h1.lt
 have lb:=(Array.getElem?_eq_some_iff.1 h7).1
 obtain⟨x2,hx2⟩:=h2
 refine⟨hr,S,T',h1.out o' (fun k hk=>?_),d',h3,h4,fun hh=>?_,fun k hk hT=>?_,o'.row h7 (fun hh=>hh.elim h10 h11),h8,h9,fun hh=>?_,h11⟩
 ·rcases hk with hk|hk
  ·exact⟨fun e=>h6 k e hk,fun e=>h5 (e ▸ hk),hx2.lo k hk⟩
  ·exact⟨hk ▸ h4,hk ▸ (Ne.symm h3),hk ▸ hx2.ql⟩
 ·rcases s' P hh with h|h
  ·exact h5 h
  ·omega
 ·rcases s' k hT with h|h
  ·exact h6 k hk h
  ·have:=l2 k hk;omega
 ·rcases s' b hh with h|h
  ·exact h10 h
  ·omega
theorem RS.rebase {w w1 W:World} {T:Nat->Prop} {Q m:Nat} {D:Dk} (h:RS w1 W T Q m D) (hb:Below w.heap.size w w1) (hf:D.fates=[]) (he:D.edits=[]):RS w W T Q m D:=by
 obtain⟨x,h⟩:=h
 exact⟨{ x with evs:=[] },{
  row:=h.row
  names:=h.names
  safe:=h.safe
  later:=h.later
  llen:=h.llen
  lin:=h.lin
  each:=h.each
  inos:=h.inos
  iin:=h.iin
  trace:=h.trace
  tin:=h.tin
  fates:=⟨(fun ad _ j u hj=>by rw [hf] at hj;cases hj),(fun ad _ h0=>by rw [hf] at h0;cases h0),(fun _=>by rw [hf];rfl),(by rw [hf];exact Nat.zero_le _)⟩
  edits:=by
   have hcap:=h.edits.cap
   rw [he] at hcap ⊢
   exact⟨fun h0=>absurd h0 (by simp),rfl,(fun j e v h=>by simp at h),h.edits.no,hcap⟩
  epath:=h.epath
  lo:=fun k hk=>Nat.le_trans hb.size (h.lo k hk)
  ql:=Nat.le_trans hb.size h.ql
  lt:=h.lt
  np:=h.np
  bel:=Below.trans hb (h.bel.mono hb.size)
  num:=h.num }⟩
structure Op10 where
 what:Int
 path:List UInt8
 text:List UInt8
structure OpAt (W:World) (g o:Nat) (c:Op10):Prop where
 w:W.cell? ⟨g,o,none⟩=some (.int .i64 c.what)
 p:W.cell? ⟨g,o+1,none⟩=some (txt c.path)
 t:W.cell? ⟨g,o+2,none⟩=some (txt c.text)
def LayO (W:World) (ao:Option Addr) (cs:List Op10):Prop :=
 0<cs.length->∃ g o,ao=some ⟨g,o,none⟩/\g<W.heap.size/\∀ (k:Nat) (c:Op10),cs[k]?=some c->OpAt W g (o+k*3) c
theorem eq_did (a b d:ByteArray) (W:World):(Op.equalIn 10000 75 (.agg #[.string a,.string b,.string d]) (.agg #[.string a,.string b,.string d])).run Tryz.prog W=.ok true W:=by
 rw [run_equalIn_struct W 9999 75 _ _ (by kernel_rfl) (by kernel_rfl)]
 have names:(Tryz.prog.fieldsOf 75).toList.map (fun f=>(f.name,f.type,f.offset))=[("Call",9,0),("Path",9,1),("To",9,2)]:=by kernel_rfl
 obtain⟨f0,f1,f2,e⟩:∃ f0 f1 f2,(Tryz.prog.fieldsOf 75).toList=[f0,f1,f2]:=by
  have hl:=congrArg List.length names
  rw [List.length_map] at hl
  match h:(Tryz.prog.fieldsOf 75).toList,hl with
  | [f0,f1,f2],_=>exact⟨f0,f1,f2,rfl⟩
 rw [e] at names
 simp only [List.map_cons,List.map_nil,List.cons.injEq,Prod.mk.injEq,and_true] at names
 obtain⟨⟨n0,t0,o0⟩,⟨n1,t1,o1⟩,n2,t2,o2⟩:=names
 rw [e]
 simp [Op.eqFields,go_sem,n0,n1,n2,t0,t1,t2,o0,o1,o2,Tryz.underlying9]
end RK
open Go.ChangeShapes Go.WideShapes Go.ChangeAt
namespace DA
open OM TP TM DP DM DG RK
theorem ops_arg {H:Type} {enc:TypeId×Value->H} {W:World} {spare:Nat->Bool} {held:Bool} {fuel len cap:Nat} {a0:Option Addr} {x:DataW H×List MemPlace}
  (h:DataW.trod enc Tryz.prog W 0 spare held fuel 63 (Value.slice a0 len cap).cells.toList=some x) (hb:Rows.uptoBulk x.1<=1048576) :
  ∃ cs:List Op10,cs.length=len/\len<=cap/\len<=maxLen/\LayO W a0 cs/\∀ c∈cs,c.path.length+1<=1048576:=by
 rcases open_threes Tryz.underlying63 Tryz.underlying65 (by kernel_rfl) rfl rfl rfl (by kernel_rfl) (by kernel_rfl) (by kernel_rfl) h with hcs|⟨ad,len',cap',n,D,sp,hcs,hl,hm,hx,hcell⟩
 ·simp [Value.cells] at hcs
  obtain⟨rfl,rfl,rfl⟩:=hcs
  exact⟨[],rfl,Nat.le_refl _,Nat.zero_le _,fun h0=>absurd h0 (by simp),fun c hc=>by cases hc⟩
 ·simp [Value.cells] at hcs
  obtain⟨rfl,rfl,rfl⟩:=hcs
  rw [hx,Rows.uptoBulk] at hb
  have hlen:len<=maxLen:=Nat.le_trans hl hm
  have hch:∀ i,i<len->∃ r:Op10,W.cell? (ad.add (i*3))=some (.int .i64 r.what)/\W.cell? (ad.add (i*3+1))=some (txt r.path)/\W.cell? (ad.add (i*3+2))=some (txt r.text)/\r.path.length+1<=1048576:=by
   intro i hi
   obtain⟨v0,v1,v2,y0,y1,y2,e0,e1,e2,hD,t0,t1,t2⟩:=hcell i hi
   obtain⟨k0,f0,_,_⟩:=DataW.trod_int (by exact Tryz.underlying3) t0
   obtain⟨s1,f1,g1,w1⟩:=DataW.trod_string (by exact Tryz.underlying9) t1
   obtain⟨s2,f2,g2,w2⟩:=DataW.trod_string (by exact Tryz.underlying9) t2
   have hm:=TF.bulk_mem (d:=D i) (l:=(List.range len).map D) (List.mem_map.2 ⟨i,List.mem_range.2 hi,rfl⟩)
   rw [hD,g1,g2] at hm
   simp only [Rows.uptoBulk,Rows.uptoBulkAll] at hm
   simp only [List.cons.injEq,and_true] at f0 f1 f2
   exact⟨⟨k0,s1.data.toList,s2.data.toList⟩,by rw [e0,f0],by rw [e1,f1,txt_data],by rw [e2,f2,txt_data],by show s1.data.toList.length+1<=_;omega⟩
  haveI:Inhabited Op10:=⟨⟨0,[],[]⟩⟩
  obtain⟨R,hR⟩:=Deep.choose_lt hch
  have hrl:((List.range len).map R).length=len:=by simp
  refine⟨(List.range len).map R,hrl,hl,hlen,fun h0=>?_,fun c hc=>?_⟩
  ·rw [hrl] at h0
   obtain⟨b,off,spot⟩:=ad
   have c0:=(hR 0 (by omega)).1
   have hspot:spot=none:=by simpa [Addr.add] using World.cell?_spot c0
   subst hspot
   rw [add_pl] at c0
   refine⟨b,off,rfl,(World.block_lt_of_cell? _ _ c0 :),fun k r hk=>?_⟩
   have hkl:k<len:=by have:=(List.getElem?_eq_some_iff.1 hk).1;rw [hrl] at this;exact this
   rw [List.getElem?_map,List.getElem?_range hkl] at hk
   simp only [Option.map_some,Option.some.injEq] at hk
   subst hk
   obtain⟨d0,d1,d2,_⟩:=hR k hkl
   rw [add_pl] at d0 d1 d2
   exact⟨d0,by rw [<- d1,Nat.add_assoc],by rw [<- d2,Nat.add_assoc]⟩
  ·obtain⟨i,hi,rfl⟩:=List.mem_map.1 hc
   exact (hR i (List.mem_range.1 hi)).2.2.2
end DA
end Go.Proofs.YtmohjalanhnhbaaGreatDoor
end

section
namespace Go.Proofs.YtmohjalanhnhbaaGreatDoor
open Go.RowKit Go.Lib Go.BigFrame
namespace RK
open OM TP TM DP DM FP DG TG TR
theorem PrB.row {w W:World} {P Q m n b:Nat} {D E:Dk} {o:Obj} (h:PrB w W P Q m D n E b o):W.heap[b]?=some o:=by
 obtain⟨S,T,h1,h2,h3,h4,h5,h6,h7,_⟩:=h
 exact h7
theorem PrB.mono {w W:World} {P Q m n m' n' b:Nat} {D E:Dk} {o:Obj} (h:PrB w W P Q m D n E b o) (hm:m<=m') (hn:n<=n'):PrB w W P Q m' D n' E b o:=by
 obtain⟨S,T,h1,h2,h3⟩:=h
 exact⟨S,T,h1.mono hm,h2.mono hn,h3⟩
theorem PrB.start {w1 w2 w3:World} {S T:Nat->Prop} {P Q b:Nat} {t:List Nd} {o:Obj} (hd:DS w1 w2 S P 0 (newD t)) (hr:RS w2 w3 T Q 0 (newD t)) (hb:w1.heap[b]?=some o):PrB w1 w3 P Q 0 (newD t) 0 (newD t) b o:=by
 obtain⟨l1,l2⟩:=hd.lt
 have hr':=hr
 obtain⟨x,hx⟩:=hr
 have h0:=hd.bel.size
 have hbl:=(Array.getElem?_eq_some_iff.1 hb).1
 have hp:=hd.pl
 have hq:=hx.ql
 refine⟨S,T,hd.below hx.bel,hr'.rebase hd.bel rfl rfl,by omega,fun h=>?_,fun h=>?_,fun k hk hT=>?_,(hx.bel.block _ (by omega)).trans ((hd.bel.block _ hbl).trans hb),fun h=>?_,by omega,fun h=>?_,by omega⟩
 ·have:=l2 _ h;omega
 ·have:=hx.lo _ h;omega
 ·have:=l2 _ hk
  have:=hx.lo _ hT
  omega
 ·have:=hd.lo _ h;omega
 ·have:=hx.lo _ h;omega
theorem PrB.rsteps {w W:World} {P Q m n b:Nat} {D E:Dk} {o:Obj} (h:PrB w W P Q m D n E b o):W.cell? ⟨Q,5,none⟩=some (.int .i64 (E.trace.length:Nat)):=by
 obtain⟨S,T,h1,⟨x,hx⟩,_⟩:=h
 rw [cell_of_row W Q 5 _ _ _ hx.row]
 rfl
theorem PrB.qlt {w W:World} {P Q m n b:Nat} {D E:Dk} {o:Obj} (h:PrB w W P Q m D n E b o):Q<W.heap.size:=by
 obtain⟨S,T,h1,h2,_⟩:=h
 exact h2.lts.1
theorem PrB.dsteps {w W:World} {P Q m n b:Nat} {D E:Dk} {o:Obj} (h:PrB w W P Q m D n E b o) :
  Calls Tryz.prog 14 #[.pointer (some ⟨P,0,none⟩)] W fun r w'=>r=.returned (.int .i64 (D.trace.length:Nat))/\W=w':=by
 obtain⟨S,T,h1,_⟩:=h
 exact h1.steps
theorem PrB.dtree {w W:World} {P Q m n b:Nat} {D E:Dk} {o:Obj} (h:PrB w W P Q m D n E b o) :
  Calls Tryz.prog 15 #[.pointer (some ⟨P,0,none⟩)] W (TR.AtPost (treeD D) W):=by
 obtain⟨S,T,h1,_⟩:=h
 exact h1.tree
theorem PrB.ktree {w W:World} {P Q m n b:Nat} {D E:Dk} {o:Obj} (h:PrB w W P Q m D n E b o) (hv:RK.V E) :
  Calls Tryz.prog 23 #[.pointer (some ⟨Q,0,none⟩)] W (TR.AtPost (treeD E) W):=by
 obtain⟨S,T,h1,h2,_⟩:=h
 exact ktree_any w W T Q n E h2 hv.fit
theorem Pr.trace {w W:World} {P Q m n:Nat} {D E:Dk} (h:Pr w W P Q m D n E) (hm:m<=1000000) :
  Calls Tryz.prog 16 #[.pointer (some ⟨P,0,none⟩)] W (ClPost 75 3 D.trace.length (didsC D.trace) W):=by
 obtain⟨S,T,h1,_⟩:=h
 exact trace_of S W P D h1.disk (Nat.le_trans h1.num.trace hm)
theorem Pr.tlen {w W:World} {P Q m n:Nat} {D E:Dk} (h:Pr w W P Q m D n E):D.trace.length<=m:=by
 obtain⟨S,T,h1,_⟩:=h
 exact h1.num.trace
theorem Pr.rtrace {w W:World} {P Q m n:Nat} {D E:Dk} (h:Pr w W P Q m D n E):∃ ao c,W.cell? ⟨Q,7,none⟩=some (.slice ao E.trace.length c)/\(0<E.trace.length->∃ g,ao=some ⟨g,0,none⟩/\g<W.heap.size/\∀ j,j<E.trace.length*3->W.cell? ⟨g,j,none⟩=(didsC E.trace)[j]?):=by
 obtain⟨S,T,h1,⟨x,hx⟩,_⟩:=h
 obtain⟨ao,c,hv,hc⟩:=owns_view hx.trace
 refine⟨ao,c,?_,fun h0=>?_⟩
 ·rw [cell_of_row W Q 7 _ _ _ hx.row,← hv]
  rfl
 ·obtain⟨g,e,hg,_,hcl⟩:=hc h0
  exact⟨g,e,hg,hcl⟩
theorem dids_at:∀ (l:List Did) (k j:Nat) (e:Did),l[k]?=some e->j<3->(didsC l)[k*3+j]?=(didC e)[j]?
 | [],k,j,n,h,_=>by simp at h
 | x::ns,0,j,n,h,hj=>by
  simp at h
  subst h
  show (didC x++didsC ns)[0*3+j]?=_
  rw [Nat.zero_mul,Nat.zero_add,List.getElem?_append_left (by show j<3;exact hj)]
 | x::ns,k+1,j,n,h,hj=>by
  rw [List.getElem?_cons_succ] at h
  have ih:=dids_at ns k j n h hj
  show (didC x++didsC ns)[(k+1)*3+j]?=_
  rw [List.getElem?_append_right (by show 3<=_;omega),← ih]
  congr 1
  show _-3=_
  omega
end RK
end Go.Proofs.YtmohjalanhnhbaaGreatDoor
end
