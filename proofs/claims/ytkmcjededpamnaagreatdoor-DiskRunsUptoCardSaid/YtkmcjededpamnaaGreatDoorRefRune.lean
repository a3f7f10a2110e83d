import Derived.Test.YtkmcjededpamnaaGreatDoorChecked
import Derived.WalkKit
import Derived.WalkMore
import Derived.IntWalk
import Derived.Below
import Derived.Deep.LoopGhost
import Derived.Lib.Hide
import Derived.Lib.DecodeN
import Derived.Lib.Strings
import Derived.Lib.ValidU
import Derived.Shelf.Unicode.DecodeSlow
set_option linter.all false
set_option maxRecDepth 100000
set_option maxHeartbeats 0
namespace Go.Proofs.YtkmcjededpamnaaGreatDoor
open Go.RowKit Go.Lib
namespace RR
def cont(b:Nat):Prop:=128<=b/\b<=191
instance (b:Nat):Decidable (cont b):=by unfold cont;infer_instance
def runeN(n b0 b1 b2 b3:Nat):Nat :=
 if b0<128 then 1
 else if 194<=b0/\b0<=223 then(if 2<=n/\cont b1 then 2 else 0)
 else if 224<=b0/\b0<=239 then(if 3<=n/\cont b1/\cont b2/\¬(((b0-224)*64+b1-128)*64+b2-128<2048\/55296<=((b0-224)*64+b1-128)*64+b2-128/\((b0-224)*64+b1-128)*64+b2-128<=57343)then 3 else 0)
 else if 240<=b0/\b0<=244 then(if 4<=n/\cont b1/\cont b2/\cont b3/\¬((((b0-240)*64+b1-128)*64+b2-128)*64+b3-128<65536\/1114111<(((b0-240)*64+b1-128)*64+b2-128)*64+b3-128)then 4 else 0)
 else 0
theorem runeN_eq(n b0 b1 b2 b3:Nat)(h0:b0<256)(h1:b1<256)(h2:b2<256)(h3:b3<256) :
  runeN n b0 b1 b2 b3=if(decodeN n b0 b1 b2 b3).1=65533/\(decodeN n b0 b1 b2 b3).2=1 then 0 else(decodeN n b0 b1 b2 b3).2:=by
 unfold runeN decodeN cont;by_cases a0:b0<128
 ·simp only[if_pos a0];rw[if_neg (by omega)]
 ·simp only[if_neg a0];by_cases a1:194<=b0/\b0<=223
  ·simp only[if_pos a1]
   repeat' split
   all_goals first|rfl|(exfalso;omega)|omega
  ·simp only[if_neg a1];by_cases a2:224<=b0/\b0<=239
   ·simp only[if_pos a2]
    repeat' split
    all_goals first|rfl|(exfalso;omega)|omega
   ·simp only[if_neg a2];by_cases a3:240<=b0/\b0<=244
    ·simp only[if_pos a3]
     repeat' split
     all_goals first|rfl|(exfalso;omega)|omega
    ·simp only[if_neg a3]
     repeat' split
     all_goals first|rfl|(exfalso;omega)|omega
def Rune(s:ByteArray)(at':Nat):Nat:=runeN (s.size-at') (s.get! at').toNat (s.get! (at'+1)).toNat (s.get! (at'+2)).toNat (s.get! (at'+3)).toNat
def Ret(n:Nat)(w:World)(e:Ending)(w':World):Prop:=e=.returned (.int .i64 n)/\w=w'
theorem get_eq(s:ByteArray)(i:Nat)(h:i<s.size):s[i]=s.get! i:=(Utf8W.get!_of_lt s i h).symm
theorem u8_lt(c:UInt8):(c.toNat:Int)<256:=by have:=c.toNat_lt;omega
theorem one(s:ByteArray)(i:Nat)(w:World)(hi:i<s.size)(h0:(s.get! i).toNat<128) :
  Calls Tryz.prog 209 #[.string s,.int .i64 i] w (Ret 1 w):=by
 have ag:(i:Int)<s.size:=by omega
 have e0:s[i]'hi=s.get! i:=get_eq s i hi;obtain⟨b0,aa⟩:∃ b0,s.get! i=b0:=⟨_,rfl⟩;rw[aa]at h0 e0;have z1:(b0.toNat:Int)<128:=by omega
 clear aa;go_enter Tryz.func209,Tryz.ntmps209;go_wp2;go_ret;exact⟨rfl,rfl⟩
theorem less(s:ByteArray)(i:Nat)(w:World)(hi:i<s.size)(hs:s.size<=4611686018427387904)(hc:128<=(s.get! i).toNat/\(s.get! i).toNat<=193\/245<=(s.get! i).toNat\/194<=(s.get! i).toNat/\(s.get! i).toNat<=223/\s.size<i+2\/224<=(s.get! i).toNat/\(s.get! i).toNat<=239/\s.size<i+3\/240<=(s.get! i).toNat/\(s.get! i).toNat<=244/\s.size<i+4) :
  Calls Tryz.prog 209 #[.string s,.int .i64 i] w (Ret 0 w):=by
 have ag:(i:Int)<s.size:=by omega
 have e0:s[i]'hi=s.get! i:=get_eq s i hi;obtain⟨b0,aa⟩:∃ b0,s.get! i=b0:=⟨_,rfl⟩;rw[aa]at hc e0;have u0:=u8_lt b0;clear aa;rcases hc with h|h|h|h|h
 all_goals
  try have z0:(128:Int)<=(b0.toNat:Int):=by omega
  try have z1:(b0.toNat:Int)<=193:=by omega
  try have z2:(194:Int)<=(b0.toNat:Int):=by omega
  try have z3:(b0.toNat:Int)<=223:=by omega
  try have z4:(224:Int)<=(b0.toNat:Int):=by omega
  try have z5:(b0.toNat:Int)<=239:=by omega
  try have z6:(240:Int)<=(b0.toNat:Int):=by omega
  try have z7:(b0.toNat:Int)<=244:=by omega
  try have z8:(245:Int)<=(b0.toNat:Int):=by omega
  try have z9:(s.size:Int)<(i:Int)+2:=by omega
  try have au:(s.size:Int)<(i:Int)+3:=by omega
  try have av:(s.size:Int)<(i:Int)+4:=by omega
  clear h;go_enter Tryz.func209,Tryz.ntmps209;go_wp2;go_ret;exact⟨rfl,rfl⟩
theorem two(s:ByteArray)(i:Nat)(w:World)(hi:i+2<=s.size)(hs:s.size<=4611686018427387904)(h0:194<=(s.get! i).toNat)(h1:(s.get! i).toNat<=223)(r:Nat)(hc:(r=0/\((s.get! (i+1)).toNat<128\/191<(s.get! (i+1)).toNat))\/(r=2/\cont (s.get! (i+1)).toNat)) :
  Calls Tryz.prog 209 #[.string s,.int .i64 i] w (Ret r w):=by
 have ag:(i:Int)<s.size:=by omega
 have ad:(i:Int)+2<=s.size:=by omega
 have e0:s[i]'(by omega)=s.get! i:=get_eq s i (by omega);have e1:s[i+1]'(by omega)=s.get! (i+1):=get_eq s (i+1) (by omega);have l1:(i:Int)+1<s.size:=by omega
 obtain⟨b0,aa⟩:∃ b,s.get! i=b:=⟨_,rfl⟩;have u0:=u8_lt b0;obtain⟨b1,ab⟩:∃ b,s.get! (i+1)=b:=⟨_,rfl⟩;have u1:=u8_lt b1;rw[aa]at e0 h0 h1;rw[ab]at e1 hc;unfold cont at hc;have z0:(194:Int)<=(b0.toNat:Int):=by omega
 have z1:(b0.toNat:Int)<=223:=by omega
 clear h0 h1 aa ab;rcases hc with ⟨rfl,h|h⟩|⟨rfl,h⟩
 all_goals
  try have ak:128<=(b1.toNat:Int):=by omega
  try have al:(b1.toNat:Int)<=191:=by omega
  try have ah:(b1.toNat:Int)<128:=by omega
  try have ai:191<(b1.toNat:Int):=by omega
  try clear h
  try clear c1
  try clear c2
  try clear c3
  go_enter Tryz.func209,Tryz.ntmps209;go_wp2;refine wp_loop_rounds 2 ?_;repeat (rw[rounds_succ];go_wp2)
  go_ret;exact⟨rfl,rfl⟩
theorem three(s:ByteArray)(i:Nat)(w:World)(hi:i+3<=s.size)(hs:s.size<=4611686018427387904)(h0:224<=(s.get! i).toNat)(h1:(s.get! i).toNat<=239)(r:Nat)(hc:(r=0/\((s.get! (i+1)).toNat<128\/191<(s.get! (i+1)).toNat))\/(r=0/\cont (s.get! (i+1)).toNat/\((s.get! (i+2)).toNat<128\/191<(s.get! (i+2)).toNat))\/(r=0/\cont (s.get! (i+1)).toNat/\cont (s.get! (i+2)).toNat/\((((s.get! i).toNat-224)*64+(s.get! (i+1)).toNat-128)*64+(s.get! (i+2)).toNat-128<2048\/55296<=(((s.get! i).toNat-224)*64+(s.get! (i+1)).toNat-128)*64+(s.get! (i+2)).toNat-128/\(((s.get! i).toNat-224)*64+(s.get! (i+1)).toNat-128)*64+(s.get! (i+2)).toNat-128<=57343))\/(r=3/\cont (s.get! (i+1)).toNat/\cont (s.get! (i+2)).toNat/\(2048<=(((s.get! i).toNat-224)*64+(s.get! (i+1)).toNat-128)*64+(s.get! (i+2)).toNat-128/\(((s.get! i).toNat-224)*64+(s.get! (i+1)).toNat-128)*64+(s.get! (i+2)).toNat-128<55296\/57343<(((s.get! i).toNat-224)*64+(s.get! (i+1)).toNat-128)*64+(s.get! (i+2)).toNat-128))) :
  Calls Tryz.prog 209 #[.string s,.int .i64 i] w (Ret r w):=by
 have ag:(i:Int)<s.size:=by omega
 have ad:(i:Int)+3<=s.size:=by omega
 have e0:s[i]'(by omega)=s.get! i:=get_eq s i (by omega);have e1:s[i+1]'(by omega)=s.get! (i+1):=get_eq s (i+1) (by omega);have l1:(i:Int)+1<s.size:=by omega
 have e2:s[i+2]'(by omega)=s.get! (i+2):=get_eq s (i+2) (by omega);have l2:(i:Int)+2<s.size:=by omega
 obtain⟨b0,aa⟩:∃ b,s.get! i=b:=⟨_,rfl⟩;have u0:=u8_lt b0;obtain⟨b1,ab⟩:∃ b,s.get! (i+1)=b:=⟨_,rfl⟩;have u1:=u8_lt b1;obtain⟨b2,ac⟩:∃ b,s.get! (i+2)=b:=⟨_,rfl⟩;have u2:=u8_lt b2;rw[aa]at e0 h0 h1 hc;rw[ab]at e1 hc;rw[ac]at e2 hc;unfold cont at hc;have z0:(224:Int)<=(b0.toNat:Int):=by omega
 have z1:(b0.toNat:Int)<=239:=by omega
 clear h0 h1 aa ab ac;rcases hc with ⟨rfl,h|h⟩|⟨rfl,c1,h|h⟩|⟨rfl,c1,c2,h|h⟩|⟨rfl,c1,c2,h|h⟩
 all_goals
  try have ak:128<=(b1.toNat:Int):=by omega
  try have al:(b1.toNat:Int)<=191:=by omega
  try have ah:(b1.toNat:Int)<128:=by omega
  try have ai:191<(b1.toNat:Int):=by omega
  try have am:128<=(b2.toNat:Int):=by omega
  try have ao:(b2.toNat:Int)<=191:=by omega
  try have ap:(b2.toNat:Int)<128:=by omega
  try have aq:191<(b2.toNat:Int):=by omega
  try have q0:(((b0.toNat:Int)-224)*64+(b1.toNat:Int)-128)*64+(b2.toNat:Int)-128<2048:=by omega
  try have q1:2048<=(((b0.toNat:Int)-224)*64+(b1.toNat:Int)-128)*64+(b2.toNat:Int)-128:=by omega
  try have q2:(((b0.toNat:Int)-224)*64+(b1.toNat:Int)-128)*64+(b2.toNat:Int)-128<55296:=by omega
  try have q3:55296<=(((b0.toNat:Int)-224)*64+(b1.toNat:Int)-128)*64+(b2.toNat:Int)-128:=by omega
  try have q4:(((b0.toNat:Int)-224)*64+(b1.toNat:Int)-128)*64+(b2.toNat:Int)-128<=57343:=by omega
  try have q5:57343<(((b0.toNat:Int)-224)*64+(b1.toNat:Int)-128)*64+(b2.toNat:Int)-128:=by omega
  try clear h
  try clear c1
  try clear c2
  try clear c3
  go_enter Tryz.func209,Tryz.ntmps209;go_wp2;refine wp_loop_rounds 3 ?_;repeat (rw[rounds_succ];go_wp2)
  go_ret;exact⟨rfl,rfl⟩
theorem four(s:ByteArray)(i:Nat)(w:World)(hi:i+4<=s.size)(hs:s.size<=4611686018427387904)(h0:240<=(s.get! i).toNat)(h1:(s.get! i).toNat<=244)(r:Nat)(hc:(r=0/\((s.get! (i+1)).toNat<128\/191<(s.get! (i+1)).toNat))\/(r=0/\cont (s.get! (i+1)).toNat/\((s.get! (i+2)).toNat<128\/191<(s.get! (i+2)).toNat))\/(r=0/\cont (s.get! (i+1)).toNat/\cont (s.get! (i+2)).toNat/\((s.get! (i+3)).toNat<128\/191<(s.get! (i+3)).toNat))\/(r=0/\cont (s.get! (i+1)).toNat/\cont (s.get! (i+2)).toNat/\cont (s.get! (i+3)).toNat/\(((((s.get! i).toNat-240)*64+(s.get! (i+1)).toNat-128)*64+(s.get! (i+2)).toNat-128)*64+(s.get! (i+3)).toNat-128<65536\/1114111<((((s.get! i).toNat-240)*64+(s.get! (i+1)).toNat-128)*64+(s.get! (i+2)).toNat-128)*64+(s.get! (i+3)).toNat-128))\/(r=4/\cont (s.get! (i+1)).toNat/\cont (s.get! (i+2)).toNat/\cont (s.get! (i+3)).toNat/\(65536<=((((s.get! i).toNat-240)*64+(s.get! (i+1)).toNat-128)*64+(s.get! (i+2)).toNat-128)*64+(s.get! (i+3)).toNat-128/\((((s.get! i).toNat-240)*64+(s.get! (i+1)).toNat-128)*64+(s.get! (i+2)).toNat-128)*64+(s.get! (i+3)).toNat-128<=1114111))) :
  Calls Tryz.prog 209 #[.string s,.int .i64 i] w (Ret r w):=by
 have ag:(i:Int)<s.size:=by omega
 have ad:(i:Int)+4<=s.size:=by omega
 have e0:s[i]'(by omega)=s.get! i:=get_eq s i (by omega);have e1:s[i+1]'(by omega)=s.get! (i+1):=get_eq s (i+1) (by omega);have l1:(i:Int)+1<s.size:=by omega
 have e2:s[i+2]'(by omega)=s.get! (i+2):=get_eq s (i+2) (by omega);have l2:(i:Int)+2<s.size:=by omega
 have e3:s[i+3]'(by omega)=s.get! (i+3):=get_eq s (i+3) (by omega);have l3:(i:Int)+3<s.size:=by omega
 obtain⟨b0,aa⟩:∃ b,s.get! i=b:=⟨_,rfl⟩;have u0:=u8_lt b0;obtain⟨b1,ab⟩:∃ b,s.get! (i+1)=b:=⟨_,rfl⟩;have u1:=u8_lt b1;obtain⟨b2,ac⟩:∃ b,s.get! (i+2)=b:=⟨_,rfl⟩;have u2:=u8_lt b2;obtain⟨b3,aj⟩:∃ b,s.get! (i+3)=b:=⟨_,rfl⟩;have u3:=u8_lt b3;rw[aa]at e0 h0 h1 hc;rw[ab]at e1 hc;rw[ac]at e2 hc;rw[aj]at e3 hc;unfold cont at hc;have z0:(240:Int)<=(b0.toNat:Int):=by omega
 have z1:(b0.toNat:Int)<=244:=by omega
 clear h0 h1 aa ab ac aj;rcases hc with ⟨rfl,h|h⟩|⟨rfl,c1,h|h⟩|⟨rfl,c1,c2,h|h⟩|⟨rfl,c1,c2,c3,h|h⟩|⟨rfl,c1,c2,c3,h⟩
 all_goals
  try have ak:128<=(b1.toNat:Int):=by omega
  try have al:(b1.toNat:Int)<=191:=by omega
  try have ah:(b1.toNat:Int)<128:=by omega
  try have ai:191<(b1.toNat:Int):=by omega
  try have am:128<=(b2.toNat:Int):=by omega
  try have ao:(b2.toNat:Int)<=191:=by omega
  try have ap:(b2.toNat:Int)<128:=by omega
  try have aq:191<(b2.toNat:Int):=by omega
  try have aw:128<=(b3.toNat:Int):=by omega
  try have ay:(b3.toNat:Int)<=191:=by omega
  try have ax:(b3.toNat:Int)<128:=by omega
  try have ar:191<(b3.toNat:Int):=by omega
  try have q0:((((b0.toNat:Int)-240)*64+(b1.toNat:Int)-128)*64+(b2.toNat:Int)-128)*64+(b3.toNat:Int)-128<65536:=by omega
  try have q1:65536<=((((b0.toNat:Int)-240)*64+(b1.toNat:Int)-128)*64+(b2.toNat:Int)-128)*64+(b3.toNat:Int)-128:=by omega
  try have q2:((((b0.toNat:Int)-240)*64+(b1.toNat:Int)-128)*64+(b2.toNat:Int)-128)*64+(b3.toNat:Int)-128<=1114111:=by omega
  try have q3:1114111<((((b0.toNat:Int)-240)*64+(b1.toNat:Int)-128)*64+(b2.toNat:Int)-128)*64+(b3.toNat:Int)-128:=by omega
  try clear h
  try clear c1
  try clear c2
  try clear c3
  go_enter Tryz.func209,Tryz.ntmps209;go_wp2;refine wp_loop_rounds 4 ?_;repeat (rw[rounds_succ];go_wp2)
  go_ret;exact⟨rfl,rfl⟩
end RR
end Go.Proofs.YtkmcjededpamnaaGreatDoor