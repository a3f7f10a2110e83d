import Derived.Test.YtmohjalanhnhbaaGreatDoorMg1
import Derived.Test.YtmohjalanhnhbaaGreatDoorTreeRef8
set_option linter.all false
set_option maxRecDepth 100000
set_option maxHeartbeats 25600000
namespace Go.Proofs.YtmohjalanhnhbaaGreatDoor
open Go.RowKit Go.Lib Go.BigFrame
namespace TR
open OM TP TM
def PutPost (l:List Nd×Nat) (w:World) (r:Ending) (w':World):Prop :=
 ∃ u,r=.returned (.tuple #[u,.int .i64 (l.2:Nat)])/\w'.ownsRow w.heap.size 45 4 u l.1.length (nodesC l.1)/\Below w.heap.size w w'
theorem PutPost.nil {l:List Nd×Nat} {e:Nat} {z:Int} {w w':World} (h:l=([],e)) (hz:z=e) (hb:Below w.heap.size w w'):PutPost l w (.returned (.tuple #[.slice none 0 0,.int .i64 z])) w' :=
 ⟨_,by rw [h,hz],by rw [h];exact World.ownsRow_nil _ _ _ _,hb⟩
structure PutIn (w:World) (ao:Option Addr) (ts:List Nd) (p:List UInt8) (bo:Option Addr) (cb:Nat) (v:List Nd):Prop where
 layT:LayN w ao ts
 layV:LayN w bo v
 smallT:Small ts
 smallV:Small v
 lenT:ts.length<=maxLen
 lenV:v.length<=maxLen
 capV:v.length<=cb
 lenP:p.length<=1048576
structure PutCalls (w:World) (ao:Option Addr) (ca:Nat) (ts:List Nd) (p:List UInt8) (bo:Option Addr) (cb:Nat) (v:List Nd) (S U:ByteArray):Prop where
 check:Calls Tryz.prog 24 #[.slice ao ts.length ca] w fun r w'=>r=.returned (.int .i64 (checkE ts:Nat))/\Below w.heap.size w w'
 right:∀ W,Below w.heap.size w W->Calls Tryz.prog 242 #[.slice bo v.length cb] W fun r w'=>r=.returned (.bool (rightV v))/\Below W.heap.size W w'
 path:∀ W,Calls Tryz.prog 86 #[.string S] W fun r w'=>r=.returned (.bool (NP.pathL p))/\Below W.heap.size W w'
 parent:∀ W,Calls Tryz.prog 89 #[.string S] W fun r w'=>r=.returned (.string U)/\Below W.heap.size W w'
 dir:∀ W,Below w.heap.size w W->Calls Tryz.prog 88 #[.slice ao ts.length ca,.string U] W fun r w'=>r=.returned (.bool (dirB ts (NP.parentL p)))/\Below W.heap.size W w'
theorem put_calls {w:World} {ao:Option Addr} {ca:Nat} {ts:List Nd} {p:List UInt8} {bo:Option Addr} {cb:Nat} {v:List Nd} (h:PutIn w ao ts p bo cb v) :
  ∃ S U:ByteArray,txt p=.string S/\S.data.toList=p/\PutCalls w ao ca ts p bo cb v S U:=by
 have hSz:(⟨p.toArray⟩:ByteArray).size<=1048576:=by rw [Lib.size_eq];simpa using h.lenP
 refine⟨⟨p.toArray⟩,⟨(NP.parentL p).toArray⟩,rfl,by simp,rcheck_any ao ca ts w h.layT h.smallT h.lenT,fun W hW=>rrightv_any bo cb v W (h.layV.below hW) h.smallV h.lenV h.capV,fun W=>?_,fun W=>?_,fun W hW=>rdir_any ao ca ts (NP.parentL p) W (h.layT.below hW) h.lenT⟩
 ·have c:=R1.RQ.rpath_any ⟨p.toArray⟩ W hSz
  exact c
 ·refine (R1.RT.rparent_any ⟨p.toArray⟩ W hSz).mono ?_
  rintro r w' ⟨t,rfl,ht,hb⟩
  refine⟨?_,hb⟩
  have e:t=⟨(NP.parentL p).toArray⟩:=by
   apply ByteArray.ext
   apply Array.ext'
   rw [ht]
  rw [e]
theorem rput_no (ao:Option Addr) (ca:Nat) (ts:List Nd) (p:List UInt8) (bo:Option Addr) (cb:Nat) (v:List Nd) (w:World) (h:PutIn w ao ts p bo cb v)
  (hno:treeB ts=false∨rightV v=false∨NP.pathL p=false∨(v≠[]/\dirB ts (NP.parentL p)=false)) :
  Calls Tryz.prog 208 #[.slice ao ts.length ca,txt p,.slice bo v.length cb] w (PutPost (putL ts p v) w):=by
 obtain⟨S,U,hS,hSd,C⟩:=put_calls (ca:=ca) h
 have HP:Hid (putL ts p v=if treeB ts=false∨rightV v=false then ([],60) else if NP.pathL p=false then ([],11) else if v≠[]/\dirB ts (NP.parentL p)=false then ([],62) else putL ts p v):=Lib.hid (by
  by_cases a:treeB ts=false∨rightV v=false
  ·unfold putL;rw [if_pos a,if_pos a]
  ·by_cases b:NP.pathL p=false
   ·unfold putL;rw [if_neg a,if_pos b,if_neg a,if_pos b]
   ·by_cases c:v≠[]/\dirB ts (NP.parentL p)=false
    ·unfold putL;rw [if_neg a,if_neg b,if_pos c,if_neg a,if_neg b,if_pos c]
    ·rw [if_neg a,if_neg b,if_neg c])
 rw [hS]
 obtain⟨c1,c2,c3,c4,c5⟩:=C
 have hz1:(ts.length:Int)<=9223372036854775807:=by have:=h.lenT;unfold maxLen at this;omega
 have hz2:(v.length:Int)<=9223372036854775807:=by have:=h.lenV;unfold maxLen at this;omega
 have hE0:=checkE_zero ts
 have hm:0<v.length↔v≠[]:=List.length_pos_iff
 obtain⟨n,hn⟩:∃ n,ts.length=n:=⟨_,rfl⟩
 obtain⟨m,hmm⟩:∃ m,v.length=m:=⟨_,rfl⟩
 obtain⟨E,hE⟩:∃ E:Nat,checkE ts=E:=⟨_,rfl⟩
 obtain⟨bR,hR⟩:∃ b,rightV v=b:=⟨_,rfl⟩
 obtain⟨bP,hP⟩:∃ b,NP.pathL p=b:=⟨_,rfl⟩
 obtain⟨bD,hD⟩:∃ b,dirB ts (NP.parentL p)=b:=⟨_,rfl⟩
 obtain⟨L,hL⟩:∃ L,putL ts p v=L:=⟨_,rfl⟩
 rw [hn] at c1 c5 hz1 ⊢
 rw [hmm] at c2 hz2 hm ⊢
 rw [hE] at c1 hE0
 rw [hR] at c2
 rw [hP] at c3
 rw [hD] at c5
 rw [hR,hP,hD,hL] at HP
 rw [hR,hP,hD] at hno
 rw [hL]
 have C1:=Lib.hid c1
 have C2:=Lib.hid c2
 have C3:=Lib.hid c3
 have C4:=Lib.hid c4
 have C5:=Lib.hid c5
 clear c1 c2 c3 c4 c5 hn hmm hE hR hP hD hL h hS hSd
 by_cases e1:(E:Int)=0
 ·have hEb:((E:Int) != 0)=false:=by simp [e1]
  have ht:=hE0.1 e1
  rw [ht] at HP hno
  clear hE0 e1 ht
  cases bR with
  | false =>
   have HF:=Lib.hid (HP.out.trans (if_pos (.inr rfl)))
   clear hno hm HP
   go_enter Tryz.func208,Tryz.ntmps208
   repeat (first
    | (go_at_call 24;refine C1.out.mono ?_;rintro r w1 ⟨rfl,hb⟩;simp only [];have B1:=Lib.hid hb;clear hb)
    | (go_at_call 242;refine (C2.out _ B1.out).mono ?_;rintro r w2 ⟨rfl,hb⟩;simp only [];have B2:=Lib.hid (Below.trans B1.out (hb.mono B1.out.size));clear hb)
    | go_skip|go_guarded|go_step|go_upon)
   go_ret2
   exact PutPost.nil HF.out rfl B2.out
  | true =>
   cases bP with
   | false =>
    have HF:=Lib.hid ((HP.out.trans (if_neg (by simp))).trans (if_pos rfl))
    clear hno hm HP
    go_enter Tryz.func208,Tryz.ntmps208
    repeat (first
     | (go_at_call 24;refine C1.out.mono ?_;rintro r w1 ⟨rfl,hb⟩;simp only [];have B1:=Lib.hid hb;clear hb)
     | (go_at_call 242;refine (C2.out _ B1.out).mono ?_;rintro r w2 ⟨rfl,hb⟩;simp only [];have B2:=Lib.hid (Below.trans B1.out (hb.mono B1.out.size));clear hb)
     | (go_at_call 86;refine (C3.out _).mono ?_;rintro r w3 ⟨rfl,hb⟩;simp only [];have B3:=Lib.hid (Below.trans B2.out (hb.mono B2.out.size));clear hb)
     | go_skip|go_guarded|go_step|go_upon)
    go_ret2
    exact PutPost.nil HF.out rfl B3.out
   | true =>
    obtain⟨h0,rfl⟩:v≠[]/\bD=false:=by simpa using hno
    have HF:=Lib.hid (((HP.out.trans (if_neg (by simp))).trans (if_neg (by simp))).trans (if_pos ⟨h0,rfl⟩))
    have m0:=hm.2 h0
    have m1:(0:Int)<m:=by omega
    have m2:decide ((0:Int)<m)=true:=by simp [m0]
    clear hno hm HP h0
    go_enter Tryz.func208,Tryz.ntmps208
    repeat (first
     | (go_at_call 24;refine C1.out.mono ?_;rintro r w1 ⟨rfl,hb⟩;simp only [];have B1:=Lib.hid hb;clear hb)
     | (go_at_call 242;refine (C2.out _ B1.out).mono ?_;rintro r w2 ⟨rfl,hb⟩;simp only [];have B2:=Lib.hid (Below.trans B1.out (hb.mono B1.out.size));clear hb)
     | (go_at_call 86;refine (C3.out _).mono ?_;rintro r w3 ⟨rfl,hb⟩;simp only [];have B3:=Lib.hid (Below.trans B2.out (hb.mono B2.out.size));clear hb)
     | (go_at_call 89;refine (C4.out _).mono ?_;rintro r w4 ⟨rfl,hb⟩;simp only [];have B4:=Lib.hid (Below.trans B3.out (hb.mono B3.out.size));clear hb)
     | (go_at_call 88;refine (C5.out _ B4.out).mono ?_;rintro r w5 ⟨rfl,hb⟩;simp only [];have B5:=Lib.hid (Below.trans B4.out (hb.mono B4.out.size));clear hb)
     | go_skip|go_guarded|go_step|go_upon)
    go_ret2
    exact PutPost.nil HF.out rfl B5.out
 ·have hEb:((E:Int) != 0)=true:=by simp;omega
  have HF:=Lib.hid (HP.out.trans (if_pos (.inl (by cases ht:treeB ts with|false=>rfl|true=>exact absurd (hE0.2 ht) e1))))
  clear hE0 e1 hno hm HP
  go_enter Tryz.func208,Tryz.ntmps208
  repeat (first
   | (go_at_call 24;refine C1.out.mono ?_;rintro r w1 ⟨rfl,hb⟩;simp only [];have B1:=Lib.hid hb;clear hb)
   | go_skip|go_guarded|go_step|go_upon)
  go_ret2
  exact PutPost.nil HF.out rfl B1.out
end TR
end Go.Proofs.YtmohjalanhnhbaaGreatDoor