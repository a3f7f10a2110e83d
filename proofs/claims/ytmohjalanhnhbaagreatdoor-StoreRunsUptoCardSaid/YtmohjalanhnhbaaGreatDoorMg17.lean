/- Texts of this seat, put one behind the other: what its statements share (part 17). -/
import Derived.Test.YtmohjalanhnhbaaGreatDoorMg1
set_option linter.all false
set_option maxRecDepth 100000
set_option maxHeartbeats 25600000
section
namespace Go.Proofs.YtmohjalanhnhbaaGreatDoor
open Go
namespace ST
open NP TP DP
theorem aft_yes {r:Dk×Int} {f:Dk->Dk×Int} (h:r.2=0):DP.after r f=f r.1:=by unfold after;rw [if_pos h]
theorem aft_no {r:Dk×Int} {f:Dk->Dk×Int} (h:r.2≠0):after r f=r:=by unfold after;rw [if_neg h]
def besideL (p:List UInt8):List UInt8:=p++[126]
def save1 (D:Dk) (p t:List UInt8):Dk×Int:=writeD D (besideL p) t 384
def save2 (D:Dk) (p t:List UInt8):Dk×Int:=DP.after (save1 D p t) fun E=>syncD E (besideL p)
def save3 (D:Dk) (p t:List UInt8):Dk×Int:=DP.after (save2 D p t) fun E=>replaceD E (besideL p) p
def saveD (D:Dk) (p t:List UInt8):Dk×Int:=DP.after (save3 D p t) fun E=>flushD E
def clear2 (D:Dk) (p:List UInt8):Dk×Int:=DP.after (removeD D p) fun E=>flushD E
def clearD (D:Dk) (p:List UInt8):Dk×Int:=((clear2 D p).1,if (clear2 D p).2=74 then 0 else (clear2 D p).2)
def loadD (D:Dk) (p:List UInt8):Dk×(List UInt8×Bool×Int) :=
 ((getD D p).1,
  if (getD D p).2.2.2=74 then ([],false,0) else if (getD D p).2.2.2≠0 then ([],false,(getD D p).2.2.2)
  else if (getD D p).2.1.kind≠1 then ([],false,73) else ((getD D p).2.1.data,true,0))
end ST
end Go.Proofs.YtmohjalanhnhbaaGreatDoor
end
