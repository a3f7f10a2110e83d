import Derived.Test.YtkmcjededpamnaaGreatDoorMg4
import Derived.Test.YtkmcjededpamnaaGreatDoorChecked
import Derived.Carry
import Derived.ProofKit
import Derived.OpenShut
import Derived.Test.YtkmcjededpamnaaGreatDoorRows
import Derived.PinnedBridge
import Derived.Lay
import Derived.MakeChecks
import Derived.Lib.LaidU8T
import Derived.Shelf.Vars
import Derived.Deep.DeepHandedRow
set_option linter.all false
set_option maxRecDepth 100000
set_option maxHeartbeats 0
namespace Go.Proofs.YtkmcjededpamnaaGreatDoor
section
open Go.ChangeShapes Go.RowKit
namespace LK
def Yes(w:World)(e:Ending)(w':World):Prop:=e=.returned (.bool true)/\Below w.heap.size w w'
theorem laidOut:laidOutB Tryz.prog=true:=by kernel_rfl
theorem keep_all{H:Type}{enc:TypeId×Value->H}{W W':World}(hb:Below W.heap.size W W'):∀(ts:List TypeId) (vs:List Value) (ds:List (DataW H)) (ps:List MemPlace),
  (∀ t∈ts,Tryz.prog.readableRec t=true/\t<Tryz.prog.types.size)->DataW.TrodAll enc Tryz.prog W 0 (fun _=>true) true ts vs ds ps->(∀ x∈ps,x.block<W.heap.size) ->
  DataW.TrodAll enc Tryz.prog W' 0 (fun b=>decide (b<W.heap.size)) true ts vs ds ps
 | [],vs,ds,ps,_,h,_=>by
  obtain⟨rfl,rfl,rfl⟩:=trodAll_nil h;exact trodAll_mk0
 | t::ts,vs,ds,ps,ht,h,aa=>by
  obtain⟨v,ad,d,ab,p,q,rfl,rfl,rfl,h0,hr⟩:=trodAll_cons h;refine trodAll_cons_mk (Below.trod laidOut (ht t (by simp)).1 (ht t (by simp)).2 h0 hb (fun x hx=>aa x (by simp[hx]))) ?_;exact keep_all hb ts ad ab q (fun t' h'=>ht t' (by simp[h'])) hr (fun x hx=>aa x (by simp[hx]))
theorem post_of{H:Type}{enc:TypeId×Value->H}{s:ChangeSpec}{fid:FuncId}{fn:Func}{W:World}{args:Array Value}{ds gs:List (DataW H)}{before:List MemPlace}
  (hvars:s.vars=[]) (hts:(fn.params.toList.all fun t=>Tryz.prog.readableRec t&&decide (t<Tryz.prog.types.size))=true) (hres:fn.resultTypes=#[4])
  (hfn:∀ gs:List (DataW H),gs=[]->s.fn H (ds++gs)={ results:=[.lit (.bool true)],args:=ds })
  (hW:DataW.Whole enc Tryz.prog fn.params.toList s.vars false W args.toList ds gs before)
  (hc:Calls Tryz.prog fid args W (Yes W)):Calls Tryz.prog fid args W fun e W'=>∃ v,e=.returned v/\s.post enc Tryz.prog fn false true false false W args v W':=by
 refine hc.mono fun e W' ⟨he,hb⟩=>⟨_,he,?_⟩;have aa:∀ x∈before,x.block<W.heap.size:=hW.lt;have ac:=hW;obtain⟨p,q,hA,hV,rfl,ah,ai⟩:=hW;rw[hvars]at hV;obtain⟨rfl,rfl⟩:=trodVars_none hV;have ag:DataW.TrodAll enc Tryz.prog W 0 (fun _=>true) true fn.params.toList args.toList ds p:=hA;have e0:=hfn [] rfl;refine⟨ds,[],p++[],[],p,[],ac,?_,?_,?_,hb.frame _,fun h=>by cases h⟩
 ·rw[e0,hres];exact trodAll_mk1 (shut_bool Tryz.underlying4 _)
 ·rw[e0];refine keep_all hb _ _ _ _ (fun t ht=>?_) ag (fun x hx=>aa x (by simp[hx]));have:=List.all_eq_true.1 hts t ht;simpa using this
 ·rw[e0,hvars];rfl
end LK
end
section
open Go.ChangeShapes Go.WideShapes Go.ChangeAt Go.RowKit Go.Lib
namespace FR
theorem own:ownKnob Tryz.prog.godebug=none:=by kernel_rfl
def laid:List (String×DataW Unit):=[("unicode/utf8.acceptRanges",Rows.laid_unicode_utf8_acceptRanges),("unicode/utf8.first",Rows.laid_unicode_utf8_first)]
theorem accept_eq:(Rows.laid_unicode_utf8_acceptRanges:DataW Unit)=acceptData:=by kernel_rfl
theorem first_eq:Rows.laid_unicode_utf8_first=firstData:=Pinned.utf8First_eq
theorem max_cell(w:World)(h:w.ShapedOpen Tryz.prog):∃ m,w.cell? ⟨0,0,none⟩=some (.int .i64 m):=by
 have h0:(((begin Tryz.prog (fun _ _=>0) default).world.heap[0]?).bind Obj.row?).map (fun x=>(x.1.size,x.2))=some (1,3):=by kernel_rfl
 obtain⟨⟨z,t⟩,hz,e⟩:=Option.map_eq_some_iff.1 h0;simp only[Prod.mk.injEq]at e;obtain⟨e1,rfl⟩:=e;exact cell_of_shapedOpen_int h (of_decide_eq_true (by kernel_rfl)) hz e1 (by kernel_rfl) (by kernel_rfl) Tryz.underlying3
theorem env_of{W:World}(hL:laidMetH Tryz.prog laid W)(hsh:W.ShapedOpen Tryz.prog):NF.Env W:=by
 rw[MakeChecks.laidMetH_plain _ _ _ (by kernel_rfl)]at hL;refine⟨utf8Tabs_of_readsT (U8Types.of196 Tryz.laysValid) ⟨by kernel_rfl,by kernel_rfl,by kernel_rfl,by kernel_rfl,by kernel_rfl,by kernel_rfl,by kernel_rfl⟩ ?_ ?_,max_cell W hsh⟩
 ·have:=Lib.laidMet.reads hL (.tail _ (.head _));rw[first_eq]at this;exact this
 ·have:=Lib.laidMet.reads hL (.head _);rw[accept_eq]at this;exact this
noncomputable def w0 (os:Os) (args:Array Value):World:=(World.laidAll Tryz.prog os laid).forCall (fun _ _=>0) ⟨#[],args,[]⟩
theorem shaped(os:Os)(args:Array Value):(w0 os args).Shaped Tryz.prog:=World.shaped_of_ZipB (by kernel_rfl) (by kernel_rfl)
theorem met(os:Os)(args:Array Value):laidMetH Tryz.prog laid (w0 os args).memory:=by
 rw[MakeChecks.laidMetH_plain _ _ _ (by kernel_rfl)];exact laidMet_laidAll _ (by kernel_rfl) (by kernel_rfl)
theorem witness{H:Type}{enc:TypeId×Value->H}{os:Os}{f:FuncId}{fn:Func}{s:OpenSpec}{conds:List PathCond}{apart:Bool}(args:Array Value)
  (hok:Input.okWideB Tryz.checked.prog (w0 os args) f ⟨#[],args,[]⟩=true)
  (hrow:s.preRow enc Tryz.checked.prog fn conds apart laid (w0 os args).memory args) :
  ∃(w:World) (tape:Tape) (i:Input),w.os=os/\(w.forCall tape i).Shaped Tryz.checked.prog/\i.vars=[]/\Input.okWide Tryz.checked.prog (w.forCall tape i) .any w.heap.size f i /\
   s.preRow enc Tryz.checked.prog fn conds apart laid (w.forCall tape i).memory i.args/\({}:Assume).holds Tryz.checked.prog (lone (Frame.enter Tryz.checked.prog f i.args .normal) [] (w.forCall tape i)) :=
 ⟨World.laidAll Tryz.prog os laid,fun _ _=>0,⟨#[],args,[]⟩,World.laidAll_os _ _ _,shaped os args,(Input.okWide_of_okWideB (base:=0) hok).1,(Input.okWide_of_okWideB hok).2,hrow,by
  simp only[Assume.holds]
  exact⟨by simp,by simp,fun _=>Modest.zero,by simp,by simp⟩⟩
end FR
end
end Go.Proofs.YtkmcjededpamnaaGreatDoor
