import Derived.Test.YthjbicggfnnonaaGreatDoorCw0
import Derived.Test.YthjbicggfnnonaaGreatDoorCards
import Derived.Test.YthjbicggfnnonaaGreatDoorTie
import Derived.Test.YthjbicggfnnonaaGreatDoorCw44
import Derived.Test.YthjbicggfnnonaaGreatDoorCw52
import Derived.Test.YthjbicggfnnonaaGreatDoorCw46
import Derived.Test.YthjbicggfnnonaaGreatDoorCw1
import Derived.WalkKit
import Derived.ProofKit
import Derived.OpenShut
import Derived.ShutString
import Derived.ChangeOld
import Derived.Below
import Derived.OpenVars
import Derived.Deep.DeepHandedRow
import Derived.LaidLaws
import Derived.LaidHandle
import Derived.Lib.LaidTab
import Derived.Deep.RegionWith
namespace Go.Proofs.YthjbicggfnnonaaGreatDoor.fnCanon
open Go.ChangeShapes Go.WideShapes Go.ChangeAt Go.RowKit
set_option linter.unusedVariables false
theorem own:ownKnob Tryz.prog.godebug=none:=kR
theorem Qe:laidOutB Tryz.prog=true:=kR
theorem et:Tryz.prog.globalNamed "errors.errorType"=some 1:=kR
theorem rt:(Tryz.prog.cutTypes.find? (·.1== "internal/reflectlite.rtype")).map (·.2)=some 175:=kR
theorem UQ:((List.range 281).filter fun t=>Tryz.prog.rowNamed t [101,114,114,111,114])=[39]:=kR
theorem Ri:Tryz.prog.types.size=281:=kR
theorem handle{W:World}(h:laidMetH Tryz.prog Rows.fnCanonRow.laid W):EW W:=by
 have i:laidMet Tryz.prog [("loop.example/s02548/impl.sumSteps",Rows.laid_loop_example_s02548_impl_sumSteps)] W/\handlesMet Tryz.prog [("errors.errorType",Rows.laid_errors_errorType)] W:=h
 obtain⟨name,u,k,c,d,e,f,a⟩:=i.2 _ (kM.2 rfl);have g:name=[101,114,114,111,114]:=(kH c).symm;subst g;obtain rfl:=kH (rt.symm.trans d);have b:k∈(List.range 281).filter fun t=>Tryz.prog.rowNamed t [101,114,114,111,114]:=ms.2 ⟨mD.2 (by rw[<-Ri];exact e),f⟩
 rw[UQ]at b;obtain rfl:=kM.1 b;have j:typeHandle Tryz.prog 39=.pointer (some ⟨2,39,none⟩):=kR;rw[j]at a;unfold EW;simpa using World.var?_cell et a 0
theorem gTab:Tryz.prog.globalNamed "loop.example/s02548/impl.sumSteps"=some 0:=kR
theorem Sp:(Tryz.prog.globals[0]?).map (·.type)=some 102:=kR
theorem RN:Tryz.prog.cellsOf 102=16:=kR
theorem Ut:Tryz.prog.cellsOf 46=1:=kR
theorem Wl{W:World}(h:laidMetH Tryz.prog Rows.fnCanonRow.laid W):Lib.TabIs Tryz.prog W "loop.example/s02548/impl.sumSteps" .u32 sumTab:=by
 have a:laidMet Tryz.prog [("loop.example/s02548/impl.sumSteps",Rows.laid_loop_example_s02548_impl_sumSteps)] W/\handlesMet Tryz.prog [("errors.errorType",Rows.laid_errors_errorType)] W:=h
 exact Lib.tabIs_of_head (rest:=[]) gTab Sp Tryz.underlying102 Tryz.underlying46 Ut RN a.1
def T2(k:IntKind)(w:World)(a:Option Addr)(len cap:Nat)(b:List Int):Prop:=
 (a=none/\len=0/\cap=0/\b=[])\/
 ∃x,a=some x/\len<=cap/\cap<=maxLen/\b.length=cap/\(∀i,i<b.length->w.cell? (x.add i)=some (.int k (b.getD i 0)))/\∀n∈b,(Lit.int k n).wf=true
theorem WH(a:Option Addr)(c b:Nat)(l:List Int)(w:World)(j:T2 .u8 w a c b l)(h:D3 w)(g:EW w):
 Calls Tryz.prog 3 #[.slice a c b] w fun e i=>e=.returned (.bool true)/\Below w.heap.size w i:=by
 exact OW (fun u s p k h1 h2 d f=>MN N9 u s p k h1 h2 d f) a c b w (Lw j) h g
set_option maxRecDepth 100000 in
theorem RT(H:Type)(enc:TypeId×Value->H)(W:World)(base:Nat)(args:Array Value)(r I:List (DataW H))(F:List MemPlace)
 (B:∀(j:Nat) t v,Tryz.f3.params[j]?=some t->args[j]?=some v->Value.okWide Tryz.prog W .any base t v)
 (A:DataW.Whole enc Tryz.prog Tryz.f3.params.toList Rows.fnCanonSpec.vars false W args.toList r I F) (y:laidMetH Tryz.prog Rows.fnCanonRow.laid W):
 Calls Tryz.prog 3 args W fun e i=>∃v,e=.returned v/\Rows.fnCanonSpec.post enc Tryz.prog Tryz.f3 false true false false W args v i:=by
 have K:=A;obtain⟨p,q,w,z,rfl,ae,ah⟩:=A;have u:DataW.TrodAll enc Tryz.prog W 0 (fun _=>true) true Tryz.f3.params.toList args.toList r p:=w;rw[Tryz.params3]at u B;obtain⟨E,aj,d0,a6,U,q0,a8,rfl,rfl,s,V⟩:=trodAll_cons u;obtain⟨rfl,rfl,rfl⟩:=trodAll_nil V;obtain rfl:args=#[E]:=by cases args;simp_all
 have J:=z;obtain⟨g,t,Z,G,d,pv,rfl,_⟩:=trodVars_one z;obtain⟨k,D,n,rfl⟩:=okWide_slice Tryz.underlying22 (B 0 22 E rfl rfl);have C:=s;have T:∀x∈U,x.block<W.heap.size:=by obtain⟨m,b⟩:=C;exact DataW.trod_lt m _ _ _ b
 obtain⟨Y,X⟩:∃f,T2 .u8 W k D n f:=by
  obtain⟨G,N⟩:=s;rcases open_ints Tryz.underlying22 Tryz.underlying5 kR N with⟨a,_⟩|⟨x,l,c,f,a,_,P,b,S,_,L,R⟩
  . simp[Value.cells]at a;obtain⟨rfl,rfl,rfl⟩:=a;exact⟨[],.inl ⟨rfl,rfl,rfl,rfl⟩⟩
  simp[Value.cells]at a;obtain⟨rfl,rfl,rfl⟩:=a;exact⟨f,.inr ⟨_,rfl,P,b,by simpa using S,L,R⟩⟩
 clear w;have Q:D3 W:=fun j O=>(Wl y).cell gTab j (by show j<16;exact O)
 refine(WH k D n Y W X Q (handle y)).mono fun e i ⟨M,bel⟩=> ?_
 subst M;exact⟨_,rfl,_,_,_,[],_,_,K,trodAll_mk1 (shut_bool Tryz.underlying4 _),trodAll_cons_mk (Below.trod Qe kR (mv kR) C bel T) trodAll_mk0,Below.trodVars Qe bel kR J,bel.frame _,fun h=>by cases h⟩
theorem SD(a:Os):laidMetH Tryz.prog Rows.fnCanonRow.laid (({World.holding Tryz.prog a ⟨#[],#[],[]⟩with heap:=((World.holding Tryz.prog a ⟨#[],#[],[]⟩).heap.modify 1 fun|.cells _ t frozen=>.cells #[.iface 175 (.agg #[.pointer (some ⟨2,39,none⟩)])] t frozen|o=>o).modify 0 fun|.cells _ t frozen=>.cells (sumTab.map (Value.int .u32)).toArray t frozen|o=>o}:World).forCall (fun _ _=>0) ⟨#[],#[.slice none 0 0],[]⟩).memory:=laidMetH_of_parts (laidMet_of_run' 8 kR kR) kR
set_option maxRecDepth 100000 in
theorem Qm(a:Os){H:Type}(enc:TypeId×Value->H):∃places,DataW.whole enc Tryz.prog (({World.holding Tryz.prog a ⟨#[],#[],[]⟩with heap:=((World.holding Tryz.prog a ⟨#[],#[],[]⟩).heap.modify 1 fun|.cells _ t frozen=>.cells #[.iface 175 (.agg #[.pointer (some ⟨2,39,none⟩)])] t frozen|o=>o).modify 0 fun|.cells _ t frozen=>.cells (sumTab.map (Value.int .u32)).toArray t frozen|o=>o}:World).forCall (fun _ _=>0) ⟨#[],#[.slice none 0 0],[]⟩).memory Tryz.f3.params.toList Rows.fnCanonSpec.vars false #[Value.slice none 0 0].toList 8=some ([.nil],[Rows.laid_loop_example_s02548_impl_sumSteps],places):=⟨MemPlace.row ⟨0,0,none⟩ 16,kR⟩
set_option maxRecDepth 100000 in
theorem UN(a:Os)(j:a.Started)(H:Type)(enc:TypeId×Value->H)(F:Stop.Interp):
 ReturnsInHanded {} Tryz.checked a 3 .any ((OpenSpec.ofChange Rows.fnCanonSpec).preRow enc Tryz.prog Tryz.f3 Rows.fnCanonRow.domain false Rows.fnCanonRow.laid) (((OpenSpec.ofChange Rows.fnCanonSpec).at F).post enc Tryz.prog Tryz.f3 false true false false):=by
 obtain⟨places,i⟩:=Qm a enc;refine returnsInHanded_of_row (C:=Tryz.checked) (s:=OpenSpec.ofChange Rows.fnCanonSpec) own j kR Tryz.func3
  (witness_row_at (enc:=enc) (C:=Tryz.checked) false ({World.holding Tryz.prog a ⟨#[],#[],[]⟩with heap:=((World.holding Tryz.prog a ⟨#[],#[],[]⟩).heap.modify 1 fun|.cells _ t frozen=>.cells #[.iface 175 (.agg #[.pointer (some ⟨2,39,none⟩)])] t frozen|o=>o).modify 0 fun|.cells _ t frozen=>.cells (sumTab.map (Value.int .u32)).toArray t frozen|o=>o}:World) #[.slice none 0 0] rfl kR kR kR
   (OpenSpec.preRow_of_cond 8 i kR (fun k g=>by cases g) kR (SD a))) ?_
 intro W base args c d b h f _ _ _ e _ _;exact RT H enc W base args c d b h f e
theorem said:Rows.FnCanonSaid:=
 OpenClaim.holds_of_cond 3 Tryz.f3 rfl rfl rfl rfl rfl rfl rfl ⟨rfl,rfl,rfl,rfl,rfl⟩ rfl rfl rfl rfl rfl kR Tryz.func3 kR
  (mv kR) (by unfold Func.isWrapper;first|(rw[lI (by decide+kernel)];kernel_rfl)|(rw[lE (by decide+kernel)];exact⟨rfl,rfl⟩))
  (fun a b H enc _ F=>by rw[OpenClaim.pre_eq_preRow];exact UN a b H enc F)
theorem plain(f:FuncId)(fn:Func)(b:Tryz.pinned.checked.prog.funcNamed "loop.example/s02548/laws.FnCanon"=some f)(c:Tryz.pinned.checked.prog.funcs[f]?=some fn):
 true=Tryz.pinned.checked.prog.looks []/\∀(j:Nat) t,fn.params[j]?=some t->Tryz.pinned.checked.prog.wantsStandIn t=false:=by
 obtain rfl:f=3:=kH ((show Tryz.prog.funcNamed "loop.example/s02548/laws.FnCanon"=some 3 from kR).symm.trans b)|>.symm;obtain rfl:fn=Tryz.f3:=(kH (Tryz.func3.symm.trans c)).symm;refine⟨kR,fun j t a=> ?_⟩;rw[Tryz.params3]at a;obtain rfl:t=22:=by simpa using Array.mem_of_getElem? a
 exact(show Tryz.prog.wantsStandIn 22=false from kR)
theorem card:Rows.FnCanonCardSaid:=Claim7.holds_tied_plain_at .later [] _ _ _ _ said (fun _ h=>by cases h) kR (fun _ h=>by cases h) fnCanon_row_tie rfl ⟨rfl,rfl⟩ kR rfl plain kR
#print axioms card
end Go.Proofs.YthjbicggfnnonaaGreatDoor.fnCanon
namespace Go.Proofs.YthjbicggfnnonaaGreatDoor
theorem fnCanon_holds:Rows.FnCanonCardSaid:=fnCanon.card
end Go.Proofs.YthjbicggfnnonaaGreatDoor
