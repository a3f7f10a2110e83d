import Derived.Test.YtkmcjededpamnaaGreatDoorMg10
import Derived.Test.YtkmcjededpamnaaGreatDoorMg9
set_option linter.all false
set_option maxRecDepth 100000
set_option maxHeartbeats 0
namespace Go.Proofs.YtkmcjededpamnaaGreatDoor
section
open Go.RowKit Go.Lib Go.BigFrame
namespace DG
open OM TP TM DP DM TG TR FP
theorem awake_any(w:World)(he:NF.Env w):Calls Tryz.prog 9 #[] w fun r w'=>r=.returned (.bool true)/\Below w.heap.size w w':=by
 have HE:=hid he;have CN:Hid (Calls Tryz.prog 10 #[.slice none 0 0] w fun r w'=>∃ S P,r=.returned (.tuple #[.pointer (some ⟨P,0,none⟩),.int .i64 0])/\DS w w' S P 0 (newD [])):=hid (new_ds (t:=[]) he (TW.Wide.nil w) (by decide +kernel));clear he;go_enter Tryz.func9,Tryz.ntmps9;repeat (first|go_skip|go_guarded|go_step|go_upon)
 refine CN.out.mono ?_;rintro r w1 ⟨S,P,rfl,h1⟩;simp only[];have D1:=hid h1;have CO:=hid h1.on;rw[show(!(newD []).off)=true from rfl]at CO;clear h1;repeat (first|(go_at_call 13;refine CO.out.mono ?_;rintro r w2 ⟨rfl,rfl⟩;simp only[])|go_skip|go_guarded|go_step|go_upon)
 have CB:=hid (D1.out.boot1 ⟨2,3,1,0⟩ rfl);refine CB.out.mono ?_;rintro r w3 ⟨rfl,S3,h3,_,_⟩;simp only[]
 have CW:Hid (Calls Tryz.prog 12 #[.pointer (some ⟨P,0,none⟩),.string ⟨#[97]⟩,.string ⟨#[120,121]⟩,.int .i64 420] w3 fun r W'=>r=.returned (.int .i64 0)/\Aft w w3 S3 P 1 awD2 W'):=hid (by
  have:=h3.write HE.out (by omega) [97] [120,121] 420 (by unfold maxLen;decide);rw[show(writeD (bootD (newD []) [⟨2,3,1,0⟩] []) [97] [120,121] 420).2=0 from aw_write]at this
  exact this)
 clear h3;repeat (first|go_skip|go_guarded|go_step|go_upon)
 refine CW.out.mono ?_;rintro r w4 ⟨rfl,S4,h4,_,_⟩;simp only[]
 have CS:Hid (Calls Tryz.prog 50 #[.pointer (some ⟨P,0,none⟩),.string ⟨#[97]⟩] w4 fun r W'=>r=.returned (.int .i64 0)/\Aft w w4 S4 P 2 awD3 W'):=hid (by
  have:=h4.sync HE.out (by omega) [97] (by unfold maxLen;decide);rw[aw_sync]at this
  exact this)
 clear h4;repeat (first|go_skip|go_guarded|go_step|go_upon)
 refine CS.out.mono ?_;rintro r w5 ⟨rfl,S5,h5,_,_⟩;simp only[]
 have CF:Hid (Calls Tryz.prog 51 #[.pointer (some ⟨P,0,none⟩)] w5 fun r W'=>r=.returned (.int .i64 75)/\Aft w w5 S5 P 3 awD4 W'):=hid (by
  have:=h5.flush HE.out (by omega);rw[aw_flush]at this
  exact this)
 clear h5;repeat (first|go_skip|go_guarded|go_step|go_upon)
 refine CF.out.mono ?_;rintro r w6 ⟨rfl,S6,h6,_,_⟩;simp only[];have ah:=hid h6.on;rw[show(!awD4.off)=false by rw[aw_off];rfl]at ah;have CT:=hid h6.tree;have ai:=hid h6.bel;have aa:=aw_tree;obtain⟨t,ht⟩:∃ t,treeD awD4=t:=⟨_,rfl⟩;rw[ht]at CT aa;clear h6 ht;repeat (first|(go_at_call 13;refine ah.out.mono ?_;rintro r w7 ⟨rfl,rfl⟩;simp only[])|go_skip|go_guarded|go_step|go_upon)
 refine CT.out.mono ?_;rintro r w8 ⟨v8,rfl,ac,ad⟩;simp only[];have aj:=hid ad
 obtain⟨n,rfl,hn⟩:∃ n:Nd,t=[n]/\n.data=[120,121]:=by
  cases t with
  | nil=>cases aa
  | cons n r =>
   cases r with
   | nil =>
    refine⟨n,rfl,?_⟩;simp only[List.map_cons,List.map_nil,List.cons.injEq,Prod.mk.injEq,and_true]at aa;exact aa.2.2.1
   | cons m r=>simp at aa
 obtain⟨a8,c8,ag,ab⟩:=lay_own ac;obtain⟨g,o,rfl,hg,hc⟩:=ab (by simp);obtain⟨-,-,e2,-⟩:=hc 0 n rfl;have hd:txt n.data=.string ⟨#[120,121]⟩:=by rw[hn];rfl
 rw[hd]at e2
 have ak:1<=c8:=by
  obtain⟨a9,c9,h9,am⟩:=owns_view ac;rcases ac.2 with ⟨e1,e3⟩|⟨g2,cp,al,e1,_,_,e4,_⟩
  ·simp at e3
  ·rw[ag]at e1;injection e1 with _ _ e5;rw[e5];exact e4
 subst ag;clear ac ad ab hc aa hn hd;rw[show(([n]:List Nd).length)=1 from rfl];repeat (first|go_skip|go_guarded|go_step|go_upon)
 go_ret;exact⟨rfl,Below.trans ai.out (aj.out.mono ai.out.size)⟩
end DG
end
section
open Go.RowKit Go.Lib Go.BigFrame
namespace DG
open OM TP TM DP DM TG TR FP
theorem step_nil(w:World)(a b c:ByteArray) :
  Calls Tryz.prog 56 #[.pointer none,.string a,.string b,.string c] w fun r w'=>r=.returned (.int .i64 75)/\w=w':=by
 have CO:=hid on_nil;go_enter Tryz.func56,Tryz.ntmps56;repeat (first|(go_at_call 13;refine(CO.out _).mono ?_;rintro r w1 ⟨rfl,rfl⟩;simp only[])|go_skip|go_guarded|go_step|go_upon)
 go_ret;exact⟨rfl,rfl⟩
theorem write_nil(w:World)(p d:ByteArray)(m:Int) :
  Calls Tryz.prog 12 #[.pointer none,.string p,.string d,.int .i64 m] w fun r w'=>r=.returned (.int .i64 75)/\Below w.heap.size w w':=by
 have CO:Hid (∀ V,Calls Tryz.prog 56 #[.pointer none,.string ⟨#[87,114,105,116,101]⟩,.string p,.string ⟨#[]⟩] V fun r w'=>r=.returned (.int .i64 75)/\V=w'):=hid (fun V=>step_nil V _ _ _);have B:=hid (Below.refl w.heap.size w);go_enter Tryz.func12,Tryz.ntmps12;repeat (first|(go_at_call 56;refine(CO.out _).mono ?_;rintro r w1 ⟨rfl,rfl⟩;simp only[])|go_skip|go_guarded|go_step|go_upon)
 go_ret
 first|exact⟨rfl,B.out⟩|exact⟨rfl,B.out.drew⟩|exact⟨rfl,(Below.refl _ _).alloc (Nat.le_refl _) _⟩
end DG
end
end Go.Proofs.YtkmcjededpamnaaGreatDoor
