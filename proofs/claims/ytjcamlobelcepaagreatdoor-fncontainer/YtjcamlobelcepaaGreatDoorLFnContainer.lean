import Derived.Test.YtjcamlobelcepaaGreatDoorCt0
import Derived.Test.YtjcamlobelcepaaGreatDoorCards
import Derived.Test.YtjcamlobelcepaaGreatDoorTie
import Derived.Test.YtjcamlobelcepaaGreatDoorCt50
import Derived.Test.YtjcamlobelcepaaGreatDoorCt2
import Derived.WalkKit
import Derived.ProofKit
import Derived.OpenShut
import Derived.ShutString
import Derived.ChangeOld
import Derived.Below
import Derived.OpenVars
import Derived.Deep.DeepHandedRow
import Derived.LaidLaws
import Derived.LaidHandle
import Derived.Lib.LaidTab
import Derived.Deep.RegionWith
namespace Go.Proofs.YtjcamlobelcepaaGreatDoor.fnContainer
open Go.ChangeShapes Go.WideShapes Go.ChangeAt Go.RowKit
set_option linter.unusedVariables false
theorem own:ownKnob Tryz.prog.godebug=none:=by kernel_rfl
theorem OS:laidOutB Tryz.prog=true:=by kernel_rfl
theorem et:Tryz.prog.globalNamed "errors.errorType"=some 1:=by kernel_rfl
theorem rt:(Tryz.prog.cutTypes.find? (·.1== "internal/reflectlite.rtype")).map (·.2)=some 191:=by kernel_rfl
theorem Tk:((List.range 272).filter fun t=>Tryz.prog.rowNamed t [101,114,114,111,114])=[41]:=by kernel_rfl
theorem P6:Tryz.prog.types.size=272:=by kernel_rfl
theorem handle{W:World}(h:laidMetH Tryz.prog Rows.fnContainerRow.laid W):CY W:=by
 have h':laidMet Tryz.prog [("loop.example/s02548/impl.sumSteps",Rows.laid_loop_example_s02548_impl_sumSteps)] W/\handlesMet Tryz.prog [("errors.errorType",Rows.laid_errors_errorType)] W:=h
 obtain⟨name,u,ty,e1,e2,e3,e4,e5⟩:=h'.2 _ (bO.2 rfl);have en:name=[101,114,114,111,114]:=(aZ e1).symm;subst en;obtain rfl:=aZ (rt.symm.trans e2);have hm:ty∈(List.range 272).filter fun t=>Tryz.prog.rowNamed t [101,114,114,111,114]:=dW.2 ⟨cX.2 (by rw[<-P6];exact e3),e4⟩
 rw[Tk]at hm;obtain rfl:=bO.1 hm;have hh:typeHandle Tryz.prog 41=.pointer (some ⟨2,41,none⟩):=by kernel_rfl
 rw[hh]at e5;unfold CY;simpa using World.var?_cell et e5 0
theorem gTab:Tryz.prog.globalNamed "loop.example/s02548/impl.sumSteps"=some 0:=by kernel_rfl
theorem QF:(Tryz.prog.globals[0]?).map (·.type)=some 100:=by kernel_rfl
theorem Qt:Tryz.prog.cellsOf 100=16:=by kernel_rfl
theorem SR:Tryz.prog.cellsOf 51=1:=by kernel_rfl
theorem Ug{W:World}(h:laidMetH Tryz.prog Rows.fnContainerRow.laid W):Lib.TabIs Tryz.prog W "loop.example/s02548/impl.sumSteps" .u32 FN:=by
 have h':laidMet Tryz.prog [("loop.example/s02548/impl.sumSteps",Rows.laid_loop_example_s02548_impl_sumSteps)] W/\handlesMet Tryz.prog [("errors.errorType",Rows.laid_errors_errorType)] W:=h
 exact Lib.tabIs_of_head (rest:=[]) gTab QF Tryz.underlying100 Tryz.underlying51 SR Qt h'.1
def Sr(k:IntKind)(w:World)(a:Option Addr)(len cap:Nat)(zs:List Int):Prop:=
 (a=none/\len=0/\cap=0/\zs=[])\/
 ∃x,a=some x/\len<=cap/\cap<=maxLen/\zs.length=cap/\(∀i,i<zs.length->w.cell? (x.add i)=some (.int k (zs.getD i 0)))/\∀n∈zs,(Lit.int k n).wf=true
theorem UM(a0:Option Addr)(len0 cap0:Nat)(z0:List Int)(w:World)(w0:Sr .u8 w a0 len0 cap0 z0)(ht:Dq w)(hev:CY w):
 Calls Tryz.prog 3 #[.slice a0 len0 cap0] w fun e w'=>e=.returned (.bool true)/\Below w.heap.size w w':=by
 exact JD a0 len0 cap0 w (Kl w0) ht hev
set_option maxRecDepth 100000 in
theorem Qy(H:Type)(enc:TypeId×Value->H)(W:World)(base:Nat)(args:Array Value)(ds gs:List (DataW H))(before:List MemPlace)
 (hval:∀(j:Nat) t v,Tryz.f3.params[j]?=some t->args[j]?=some v->Value.okWide Tryz.prog W .any base t v)
 (hW:DataW.Whole enc Tryz.prog Tryz.f3.params.toList Rows.fnContainerSpec.vars false W args.toList ds gs before) (hL:laidMetH Tryz.prog Rows.fnContainerRow.laid W):
 Calls Tryz.prog 3 args W fun e W'=>∃v,e=.returned v/\Rows.fnContainerSpec.post enc Tryz.prog Tryz.f3 false true false false W args v W':=by
 have hW':=hW;obtain⟨p,q,hA0,hV,rfl,hfz,hnd⟩:=hW;have hA:DataW.TrodAll enc Tryz.prog W 0 (fun _=>true) true Tryz.f3.params.toList args.toList ds p:=hA0;rw[Tryz.params3]at hA hval;obtain⟨v0,vs0,d0,ds0,p0,q0,hargs,rfl,rfl,h0,r0⟩:=trodAll_cons hA;obtain⟨rfl,rfl,rfl⟩:=trodAll_nil r0;obtain rfl:args=#[v0]:=by cases args;simp_all
 have hV':=hV;obtain⟨g,t,cs,fuel,d,pv,rfl,_⟩:=trodVars_one hV;obtain⟨a0,len0,cap0,rfl⟩:=okWide_slice Tryz.underlying22 (hval 0 22 v0 rfl rfl);have k0:=h0;have lt0:∀x∈p0,x.block<W.heap.size:=by obtain⟨m,hm⟩:=k0;exact DataW.trod_lt m _ _ _ hm
 obtain⟨z0,w0⟩:∃zs,Sr .u8 W a0 len0 cap0 zs:=by
  obtain⟨fuel,hf⟩:=h0;rcases open_ints Tryz.underlying22 Tryz.underlying5 (by kernel_rfl) hf with⟨hcs,_⟩|⟨x,l,c,zs,hcs,_,hl,hm,hz,_,hcell,hwz⟩
  . simp[Value.cells]at hcs
    obtain⟨rfl,rfl,rfl⟩:=hcs;exact⟨[],.inl ⟨rfl,rfl,rfl,rfl⟩⟩
  . simp[Value.cells]at hcs
    obtain⟨rfl,rfl,rfl⟩:=hcs;exact⟨zs,.inr ⟨_,rfl,hl,hm,by simpa using hz,hcell,hwz⟩⟩
 clear hA0;have ht:Dq W:=fun j hj=>(Ug hL).cell gTab j (by show j<16;exact hj)
 refine(UM a0 len0 cap0 z0 W w0 ht (handle hL)).mono fun e W' ⟨he,bel⟩=> ?_
 subst he;exact⟨_,rfl,_,_,_,[],_,_,hW',trodAll_mk1 (shut_bool Tryz.underlying4 _),trodAll_cons_mk (Below.trod OS (by kernel_rfl) (dm (by kernel_rfl)) k0 bel lt0) trodAll_mk0,Below.trodVars OS bel (by kernel_rfl) hV',bel.frame _,fun h=>by cases h⟩
theorem QS(os:Os):laidMetH Tryz.prog Rows.fnContainerRow.laid (({World.holding Tryz.prog os ⟨#[],#[],[]⟩with heap:=((World.holding Tryz.prog os ⟨#[],#[],[]⟩).heap.modify 1 fun|.cells _ t frozen=>.cells #[.iface 191 (.agg #[.pointer (some ⟨2,41,none⟩)])] t frozen|o=>o).modify 0 fun|.cells _ t frozen=>.cells (FN.map (Value.int .u32)).toArray t frozen|o=>o}:World).forCall (fun _ _=>0) ⟨#[],#[.slice none 0 0],[]⟩).memory:=
 laidMetH_of_parts (laidMet_of_run' 8 (by kernel_rfl) (by kernel_rfl)) (by kernel_rfl)
set_option maxRecDepth 100000 in
theorem O4(os:Os){H:Type}(enc:TypeId×Value->H):∃places,DataW.whole enc Tryz.prog (({World.holding Tryz.prog os ⟨#[],#[],[]⟩with heap:=((World.holding Tryz.prog os ⟨#[],#[],[]⟩).heap.modify 1 fun|.cells _ t frozen=>.cells #[.iface 191 (.agg #[.pointer (some ⟨2,41,none⟩)])] t frozen|o=>o).modify 0 fun|.cells _ t frozen=>.cells (FN.map (Value.int .u32)).toArray t frozen|o=>o}:World).forCall (fun _ _=>0) ⟨#[],#[.slice none 0 0],[]⟩).memory Tryz.f3.params.toList Rows.fnContainerSpec.vars false #[Value.slice none 0 0].toList 8=some ([.nil],[Rows.laid_loop_example_s02548_impl_sumSteps],places):=
 ⟨MemPlace.row ⟨0,0,none⟩ 16,by kernel_rfl⟩
set_option maxRecDepth 100000 in
theorem Td(os:Os)(started:os.Started)(H:Type)(enc:TypeId×Value->H)(F:Stop.Interp):
 ReturnsInHanded {} Tryz.checked os 3 .any ((OpenSpec.ofChange Rows.fnContainerSpec).preRow enc Tryz.prog Tryz.f3 Rows.fnContainerRow.domain false Rows.fnContainerRow.laid) (((OpenSpec.ofChange Rows.fnContainerSpec).at F).post enc Tryz.prog Tryz.f3 false true false false):=by
 obtain⟨places,hx⟩:=O4 os enc
 refine returnsInHanded_of_row (C:=Tryz.checked) (s:=OpenSpec.ofChange Rows.fnContainerSpec) own started (by kernel_rfl) Tryz.func3
  (witness_row_at (enc:=enc) (C:=Tryz.checked) false ({World.holding Tryz.prog os ⟨#[],#[],[]⟩with heap:=((World.holding Tryz.prog os ⟨#[],#[],[]⟩).heap.modify 1 fun|.cells _ t frozen=>.cells #[.iface 191 (.agg #[.pointer (some ⟨2,41,none⟩)])] t frozen|o=>o).modify 0 fun|.cells _ t frozen=>.cells (FN.map (Value.int .u32)).toArray t frozen|o=>o}:World) #[.slice none 0 0] rfl (by kernel_rfl) (by kernel_rfl) (by kernel_rfl)
   (OpenSpec.preRow_of_cond 8 hx (by kernel_rfl) (fun k hk=>by cases hk) (by kernel_rfl) (QS os))) ?_
 intro W base args ds gs before hval hW _ _ _ hL _ _;exact Qy H enc W base args ds gs before hval hW hL
theorem said:Rows.FnContainerSaid:=
 OpenClaim.holds_of_cond 3 Tryz.f3 rfl rfl rfl rfl rfl rfl rfl ⟨rfl,rfl,rfl,rfl,rfl⟩ rfl rfl rfl rfl rfl (by kernel_rfl) Tryz.func3 (by kernel_rfl)
  (dm (by kernel_rfl)) (by unfold Func.isWrapper;first|(rw[bj (by decide+kernel)];kernel_rfl)|(rw[bX (by decide+kernel)];exact⟨rfl,rfl⟩))
  (fun os started H enc _ F=>by rw[OpenClaim.pre_eq_preRow];exact Td os started H enc F)
theorem plain(f:FuncId)(fn:Func)(hf:Tryz.pinned.checked.prog.funcNamed "loop.example/s02548/laws.FnContainer"=some f)(hfn:Tryz.pinned.checked.prog.funcs[f]?=some fn):
 true=Tryz.pinned.checked.prog.looks []/\∀(j:Nat) t,fn.params[j]?=some t->Tryz.pinned.checked.prog.wantsStandIn t=false:=by
 obtain rfl:f=3:=aZ ((show Tryz.prog.funcNamed "loop.example/s02548/laws.FnContainer"=some 3 by kernel_rfl).symm.trans hf)|>.symm;obtain rfl:fn=Tryz.f3:=(aZ (Tryz.func3.symm.trans hfn)).symm;refine⟨by kernel_rfl,fun j t ht=> ?_⟩;rw[Tryz.params3]at ht;obtain rfl:t=22:=by simpa using Array.mem_of_getElem? ht
 exact(show Tryz.prog.wantsStandIn 22=false by kernel_rfl)
theorem card:Rows.FnContainerCardSaid:=
 Claim7.holds_tied_plain_at .later [] _ _ _ _ said (fun _ h=>by cases h) (by kernel_rfl) (fun _ h=>by cases h) fnContainer_row_tie rfl ⟨rfl,rfl⟩ (by kernel_rfl) rfl plain (by kernel_rfl)
#print axioms card
end Go.Proofs.YtjcamlobelcepaaGreatDoor.fnContainer
namespace Go.Proofs.YtjcamlobelcepaaGreatDoor
theorem fnContainer_holds:Rows.FnContainerCardSaid:=fnContainer.card
end Go.Proofs.YtjcamlobelcepaaGreatDoor
