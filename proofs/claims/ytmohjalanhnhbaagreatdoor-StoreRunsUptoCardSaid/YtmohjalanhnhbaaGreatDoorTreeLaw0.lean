import Derived.Test.YtmohjalanhnhbaaGreatDoorTreeRefB
set_option linter.all false
set_option maxRecDepth 100000
set_option maxHeartbeats 25600000
namespace Go.Proofs.YtmohjalanhnhbaaGreatDoor
open Go.RowKit Go.Lib Go.BigFrame
namespace TR
open OM TP TM
theorem rput_any (ao:Option Addr) (ca:Nat) (ts:List Nd) (p:List UInt8) (bo:Option Addr) (cb:Nat) (v:List Nd) (w:World) (h:PutIn w ao ts p bo cb v) :
  Calls Tryz.prog 208 #[.slice ao ts.length ca,txt p,.slice bo v.length cb] w (PutPost (putL ts p v) w):=by
 cases ht:treeB ts with
 | false=>exact rput_no ao ca ts p bo cb v w h (.inl ht)
 | true =>
  cases hv:rightV v with
  | false=>exact rput_no ao ca ts p bo cb v w h (.inr (.inl hv))
  | true =>
   cases hp:NP.pathL p with
   | false=>exact rput_no ao ca ts p bo cb v w h (.inr (.inr (.inl hp)))
   | true =>
    by_cases h0:v=[]
    ·exact rput_yes ao ca ts p bo cb v w h ht hv hp (.inl h0)
    ·cases hd:dirB ts (NP.parentL p) with
     | false=>exact rput_no ao ca ts p bo cb v w h (.inr (.inr (.inr ⟨h0,hd⟩)))
     | true=>exact rput_yes ao ca ts p bo cb v w h ht hv hp (.inr hd)
end TR
end Go.Proofs.YtmohjalanhnhbaaGreatDoor