import Derived.Test.YtkgohaigebcgoaaGreatDoorLo0
import Derived.Test.YtkgohaigebcgoaaGreatDoorCards
import Derived.Test.YtkgohaigebcgoaaGreatDoorTie
import Derived.Test.YtkgohaigebcgoaaGreatDoorLo52
import Derived.Test.YtkgohaigebcgoaaGreatDoorLo3
import Derived.WalkKit
import Derived.ProofKit
import Derived.OpenShut
import Derived.ShutString
import Derived.ChangeOld
import Derived.Below
import Derived.OpenVars
import Derived.Deep.DeepHandedRow
import Derived.LaidLaws
import Derived.LaidHandle
import Derived.Lib.LaidTab
import Derived.Deep.RegionWith
namespace Go.Proofs.YtkgohaigebcgoaaGreatDoor.fnDeep
open Go.ChangeShapes Go.WideShapes Go.ChangeAt Go.RowKit
open Go.Value renaming slice → Z
open Option renaming some → K,none → M
open Go renaming Value → J,World → Y,Calls → Ai,TypeId → Aj
open Go.RowKit renaming Below → Ah
open Go.Obj renaming cells → Ak
open Go.Ending renaming returned → Am
open Go.Proofs.Tryz renaming prog → Aq
open Go.Proofs.Tryz
set_option linter.unusedVariables false
theorem own:ownKnob Tryz.prog.godebug=M:=kR
theorem Ps:laidOutB Aq=true:=kR
theorem et:Tryz.prog.globalNamed "errors.errorType"=K 0:=kR
theorem rt:(Tryz.prog.cutTypes.find? (·.1== "internal/reflectlite.rtype")).map (·.2)=K 227:=kR
theorem Ta:((List.range 356).filter λt=>Tryz.prog.rowNamed t [101,114,114,111,114])=[67]:=kR
theorem Kj:Tryz.prog.types.size=356:=kR
theorem handle{W:Y}(h:laidMetH Aq Rows.fnDeepRow.laid W):CC W:=by
 have i:laidMet Aq [] W/\handlesMet Aq Rows.fnDeepRow.laid W:=h
 obtain⟨name,u,ty,c,d,e,f,a⟩:=i.2 _ (jU.2 rfl);have g:name=[101,114,114,111,114]:=(jM c).symm;subst g;obtain rfl:=jM (rt.symm.trans d);have b:ty∈(List.range 356).filter λt=>Tryz.prog.rowNamed t [101,114,114,111,114]:=lY.2 ⟨k6.2 (by rw[<-Kj];exact e),f⟩
 rw[Ta]at b;obtain rfl:=jU.1 b;have j:typeHandle Aq 67=.pointer (K ⟨1,67,M⟩):=kR;rw[j]at a;unfold CC;simpa using World.var?_cell et a 0
def Qg(k:IntKind)(w:Y)(a:Option Addr)(len cap:Nat)(b:List Int):Prop:=
 (a=M/\len=0/\cap=0/\b=[])\/
 ∃x,a=K x/\len<=cap/\cap<=maxLen/\b.length=cap/\(∀i,i<b.length->w.cell? (x.add i)=K (.int k (b.getD i 0)))/\∀n∈b,(Lit.int k n).wf=true
theorem pL(a0:Option Addr)(b a:Nat)(g:List Int)(w:Y)(f:Qg .u8 w a0 b a g)(c:CC w):
 Ai Aq 4 #[Z a0 b a] w λe d=>e=Am (.bool true)/\Ah w.heap.size w d:=by
 exact QZ a0 b a w (Iy f) c
set_option maxRecDepth 100000 in
theorem LW(H:Type)(enc:Aj×J->H)(W:Y)(base:Nat)(args:Array J)(i B:List (DataW H))(A:List MemPlace)
 (u:∀(j:Nat) t v,Tryz.f4.params[j]?=K t->args[j]?=K v->Value.okWide Aq W .any base t v)
 (s:DataW.Whole enc Aq Tryz.f4.params.toList Rows.fnDeepSpec.vars false W args.toList i B A) (C:laidMetH Aq Rows.fnDeepRow.laid W):
 Ai Aq 4 args W λe f=>∃v,e=Am v/\Rows.fnDeepSpec.post enc Aq Tryz.f4 false true false false W args v f:=by
 have E:=s;obtain⟨p,q,r,D,rfl,ae,ai⟩:=s;have n:DataW.TrodAll enc Aq W 0 (λ_=>true) true Tryz.f4.params.toList args.toList i p:=r;rw[Tryz.params4]at n u;obtain⟨z,aj,U,V,Q,q0,aa,rfl,rfl,k,R⟩:=trodAll_cons n;obtain⟨rfl,rfl,rfl⟩:=trodAll_nil R;obtain rfl:args=#[z]:=by cases args;simp_all
 obtain⟨rfl,rfl⟩:=trodVars_none D;obtain⟨a0,y,g,rfl⟩:=okWide_slice underlying22 (u 0 22 z rfl rfl);have w:=k;have P:∀x∈Q,x.block<W.heap.size:=by obtain⟨m,b⟩:=w;exact DataW.trod_lt m _ _ _ b
 obtain⟨T,S⟩:∃d,Qg .u8 W a0 y g d:=by
  obtain⟨X,I⟩:=k;rcases open_ints underlying22 underlying5 kR I with⟨a,_⟩|⟨x,l,c,d,a,_,L,b,O,_,F,N⟩
  . simp[Value.cells]at a;obtain⟨rfl,rfl,rfl⟩:=a;exact⟨[],.inl ⟨rfl,rfl,rfl,rfl⟩⟩
  simp[Value.cells]at a;obtain⟨rfl,rfl,rfl⟩:=a;exact⟨d,.inr ⟨_,rfl,L,b,by simpa using O,F,N⟩⟩
 clear r;refine(pL a0 y g T W S (handle C)).mono λe f ⟨G,bel⟩=> ?_
 subst G;exact⟨_,rfl,_,_,_,[],_,[],E,trodAll_mk1 (shut_bool underlying4 _),trodAll_cons_mk (Below.trod Ps kR (mm kR) w bel P) trodAll_mk0,rfl,bel.frame _, λh=>by cases h⟩
theorem Mj(os:Os):laidMetH Aq Rows.fnDeepRow.laid (({World.holding Aq os ⟨#[],#[],[]⟩with heap:=(World.holding Aq os ⟨#[],#[],[]⟩).heap.modify 0 λ |.cells _ t frozen=>Ak #[.iface 227 (.agg #[.pointer (K ⟨1,67,M⟩)])] t frozen|o=>o}:Y).forCall (λ_ _=>0) ⟨#[],#[Z M 0 0],[]⟩).memory:=laidMetH_of_parts (laidMet_nil _ _) kR
set_option maxRecDepth 100000 in
theorem reads(os:Os){H:Type}(enc:Aj×J->H):∃a,DataW.whole enc Aq (({World.holding Aq os ⟨#[],#[],[]⟩with heap:=(World.holding Aq os ⟨#[],#[],[]⟩).heap.modify 0 λ |.cells _ t frozen=>Ak #[.iface 227 (.agg #[.pointer (K ⟨1,67,M⟩)])] t frozen|o=>o}:Y).forCall (λ_ _=>0) ⟨#[],#[Z M 0 0],[]⟩).memory Tryz.f4.params.toList Rows.fnDeepSpec.vars false #[Z M 0 0].toList 8=K ([.nil],[],a):=⟨[],kR⟩
set_option maxRecDepth 100000 in
theorem SV(os:Os)(i:os.Started)(H:Type)(enc:Aj×J->H)(F:Stop.Interp):
 ReturnsInHanded {} Tryz.checked os 4 .any ((OpenSpec.ofChange Rows.fnDeepSpec).preRow enc Aq Tryz.f4 Rows.fnDeepRow.domain false Rows.fnDeepRow.laid) (((OpenSpec.ofChange Rows.fnDeepSpec).at F).post enc Aq Tryz.f4 false true false false):=by
 obtain⟨j,h⟩:=reads os enc;refine returnsInHanded_of_row (C:=Tryz.checked) (s:=OpenSpec.ofChange Rows.fnDeepSpec) own i kR func4
  (witness_row_at (enc:=enc) (C:=Tryz.checked) false ({World.holding Aq os ⟨#[],#[],[]⟩with heap:=(World.holding Aq os ⟨#[],#[],[]⟩).heap.modify 0 λ |.cells _ t frozen=>Ak #[.iface 227 (.agg #[.pointer (K ⟨1,67,M⟩)])] t frozen|o=>o}:Y) #[Z M 0 0] rfl kR kR kR
   (OpenSpec.preRow_of_cond 8 h kR (λk f=>by cases f) kR (Mj os))) ?_
 intro W base args b c a g e _ _ _ d _ _;exact LW H enc W base args b c a g e d
theorem said:Rows.FnDeepSaid:=
 OpenClaim.holds_of_cond 4 Tryz.f4 rfl rfl rfl rfl rfl rfl rfl ⟨rfl,rfl,rfl,rfl,rfl⟩ rfl rfl rfl rfl rfl kR func4 kR
  (mm kR) (by unfold Func.isWrapper;first|(rw[jP (by decide+kernel)];kernel_rfl)|(rw[jH (by decide+kernel)];exact⟨rfl,rfl⟩))
  (λos a H enc _ F=>by rw[OpenClaim.pre_eq_preRow];exact SV os a H enc F)
theorem plain(f:FuncId)(fn:Func)(a:Tryz.pinned.checked.prog.funcNamed "loop.example/s02548/laws.FnDeep"=K f)(b:Tryz.pinned.checked.prog.funcs[f]?=K fn):
 true=Tryz.pinned.checked.prog.looks []/\∀(j:Nat) t,fn.params[j]?=K t->Tryz.pinned.checked.prog.wantsStandIn t=false:=by
 obtain rfl:f=4:=jM ((show Tryz.prog.funcNamed "loop.example/s02548/laws.FnDeep"=K 4 from kR).symm.trans a)|>.symm;obtain rfl:fn=Tryz.f4:=(jM (func4.symm.trans b)).symm;refine⟨kR, λj t ht=> ?_⟩;rw[Tryz.params4]at ht;obtain rfl:t=22:=by simpa using Array.mem_of_getElem? ht
 exact(show Tryz.prog.wantsStandIn 22=false from kR)
theorem card:Rows.FnDeepCardSaid:=Claim7.holds_tied_plain_at .later [] _ _ _ _ said (λ_ h=>by cases h) kR (λ_ h=>by cases h) fnDeep_row_tie rfl ⟨rfl,rfl⟩ kR rfl plain kR
#print axioms card
end Go.Proofs.YtkgohaigebcgoaaGreatDoor.fnDeep
namespace Go.Proofs.YtkgohaigebcgoaaGreatDoor
theorem fnDeep_holds:Rows.FnDeepCardSaid:=fnDeep.card
end Go.Proofs.YtkgohaigebcgoaaGreatDoor
