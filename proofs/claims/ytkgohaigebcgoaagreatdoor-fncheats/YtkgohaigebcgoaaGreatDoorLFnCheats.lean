import Derived.Test.YtkgohaigebcgoaaGreatDoorCh0
import Derived.Test.YtkgohaigebcgoaaGreatDoorCards
import Derived.Test.YtkgohaigebcgoaaGreatDoorTie
import Derived.Test.YtkgohaigebcgoaaGreatDoorCh52
import Derived.Test.YtkgohaigebcgoaaGreatDoorCh3
import Derived.WalkKit
import Derived.ProofKit
import Derived.OpenShut
import Derived.ShutString
import Derived.ChangeOld
import Derived.Below
import Derived.OpenVars
import Derived.Deep.DeepHandedRow
import Derived.LaidLaws
import Derived.LaidHandle
import Derived.Lib.LaidTab
import Derived.Deep.RegionWith
namespace Go.Proofs.YtkgohaigebcgoaaGreatDoor.fnCheats
open Go.ChangeShapes Go.WideShapes Go.ChangeAt Go.RowKit
open Go.Value renaming slice → Z
open Option renaming some → K,none → M
open Go renaming Value → J,World → Y,Calls → Ai,TypeId → Aj
open Go.RowKit renaming Below → Ah
open Go.Obj renaming cells → Ak
open Go.Ending renaming returned → Am
open Go.Proofs.Tryz renaming prog → Aq
open Go.Proofs.Tryz
set_option linter.unusedVariables false
theorem own:ownKnob Tryz.prog.godebug=M:=kR
theorem Zm:laidOutB Aq=true:=kR
theorem et:Tryz.prog.globalNamed "errors.errorType"=K 0:=kR
theorem rt:(Tryz.prog.cutTypes.find? (·.1== "internal/reflectlite.rtype")).map (·.2)=K 227:=kR
theorem rG:((List.range 356).filter λt=>Tryz.prog.rowNamed t [101,114,114,111,114])=[67]:=kR
theorem VT:Tryz.prog.types.size=356:=kR
theorem handle{W:Y}(h:laidMetH Aq Rows.fnCheatsRow.laid W):Dz W:=by
 have j:laidMet Aq [] W/\handlesMet Aq Rows.fnCheatsRow.laid W:=h
 obtain⟨name,u,ty,c,d,e,f,a⟩:=j.2 _ (mK.2 rfl);have g:name=[101,114,114,111,114]:=(mD c).symm;subst g;obtain rfl:=mD (rt.symm.trans d);have b:ty∈(List.range 356).filter λt=>Tryz.prog.rowNamed t [101,114,114,111,114]:=oP.2 ⟨nN.2 (by rw[<-VT];exact e),f⟩
 rw[rG]at b;obtain rfl:=mK.1 b;have k:typeHandle Aq 67=.pointer (K ⟨1,67,M⟩):=kR;rw[k]at a;unfold Dz;simpa using World.var?_cell et a 0
def Z5(k:IntKind)(w:Y)(a:Option Addr)(len cap:Nat)(b:List Int):Prop:=
 (a=M/\len=0/\cap=0/\b=[])\/
 ∃x,a=K x/\len<=cap/\cap<=maxLen/\b.length=cap/\(∀i,i<b.length->w.cell? (x.add i)=K (.int k (b.getD i 0)))/\∀n∈b,(Lit.int k n).wf=true
theorem ux(a0:Option Addr)(b a:Nat)(g:List Int)(w:Y)(f:Z5 .u8 w a0 b a g)(c:Dz w):
 Ai Aq 5 #[Z a0 b a] w λe d=>e=Am (.bool true)/\Ah w.heap.size w d:=by
 exact Nj a0 b a w (Ng f) c
set_option maxRecDepth 100000 in
theorem Ww(H:Type)(enc:Aj×J->H)(W:Y)(base:Nat)(args:Array J)(k C:List (DataW H))(B:List MemPlace)
 (w:∀(j:Nat) t v,Tryz.f5.params[j]?=K t->args[j]?=K v->Value.okWide Aq W .any base t v)
 (u:DataW.Whole enc Aq Tryz.f5.params.toList Rows.fnCheatsSpec.vars false W args.toList k C B) (D:laidMetH Aq Rows.fnCheatsRow.laid W):
 Ai Aq 5 args W λe f=>∃v,e=Am v/\Rows.fnCheatsSpec.post enc Aq Tryz.f5 false true false false W args v f:=by
 have F:=u;obtain⟨p,q,s,E,rfl,ai,aj⟩:=u;have r:DataW.TrodAll enc Aq W 0 (λ_=>true) true Tryz.f5.params.toList args.toList k p:=s;rw[Tryz.params5]at r w;obtain⟨A,aq,V,X,R,q0,ae,rfl,rfl,n,S⟩:=trodAll_cons r;obtain⟨rfl,rfl,rfl⟩:=trodAll_nil S;obtain rfl:args=#[A]:=by cases args;simp_all
 obtain⟨rfl,rfl⟩:=trodVars_none E;obtain⟨a0,z,g,rfl⟩:=okWide_slice underlying22 (w 0 22 A rfl rfl);have y:=n;have Q:∀x∈R,x.block<W.heap.size:=by obtain⟨m,b⟩:=y;exact DataW.trod_lt m _ _ _ b
 obtain⟨U,T⟩:∃d,Z5 .u8 W a0 z g d:=by
  obtain⟨aa,L⟩:=n;rcases open_ints underlying22 underlying5 kR L with⟨a,_⟩|⟨x,l,c,d,a,_,N,b,P,_,G,O⟩
  . simp[Value.cells]at a;obtain⟨rfl,rfl,rfl⟩:=a;exact⟨[],.inl ⟨rfl,rfl,rfl,rfl⟩⟩
  simp[Value.cells]at a;obtain⟨rfl,rfl,rfl⟩:=a;exact⟨d,.inr ⟨_,rfl,N,b,by simpa using P,G,O⟩⟩
 clear s;refine(ux a0 z g U W T (handle D)).mono λe f ⟨I,bel⟩=> ?_
 subst I;exact⟨_,rfl,_,_,_,[],_,[],F,trodAll_mk1 (shut_bool underlying4 _),trodAll_cons_mk (Below.trod Zm kR (ph kR) y bel Q) trodAll_mk0,rfl,bel.frame _, λh=>by cases h⟩
theorem Xo(os:Os):laidMetH Aq Rows.fnCheatsRow.laid (({World.holding Aq os ⟨#[],#[],[]⟩with heap:=(World.holding Aq os ⟨#[],#[],[]⟩).heap.modify 0 λ |.cells _ t frozen=>Ak #[.iface 227 (.agg #[.pointer (K ⟨1,67,M⟩)])] t frozen|o=>o}:Y).forCall (λ_ _=>0) ⟨#[],#[Z M 0 0],[]⟩).memory:=laidMetH_of_parts (laidMet_nil _ _) kR
set_option maxRecDepth 100000 in
theorem reads(os:Os){H:Type}(enc:Aj×J->H):∃a,DataW.whole enc Aq (({World.holding Aq os ⟨#[],#[],[]⟩with heap:=(World.holding Aq os ⟨#[],#[],[]⟩).heap.modify 0 λ |.cells _ t frozen=>Ak #[.iface 227 (.agg #[.pointer (K ⟨1,67,M⟩)])] t frozen|o=>o}:Y).forCall (λ_ _=>0) ⟨#[],#[Z M 0 0],[]⟩).memory Tryz.f5.params.toList Rows.fnCheatsSpec.vars false #[Z M 0 0].toList 8=K ([.nil],[],a):=⟨[],kR⟩
set_option maxRecDepth 100000 in
theorem rz(os:Os)(j:os.Started)(H:Type)(enc:Aj×J->H)(F:Stop.Interp):
 ReturnsInHanded {} Tryz.checked os 5 .any ((OpenSpec.ofChange Rows.fnCheatsSpec).preRow enc Aq Tryz.f5 Rows.fnCheatsRow.domain false Rows.fnCheatsRow.laid) (((OpenSpec.ofChange Rows.fnCheatsSpec).at F).post enc Aq Tryz.f5 false true false false):=by
 obtain⟨l,h⟩:=reads os enc;refine returnsInHanded_of_row (C:=Tryz.checked) (s:=OpenSpec.ofChange Rows.fnCheatsSpec) own j kR func5
  (witness_row_at (enc:=enc) (C:=Tryz.checked) false ({World.holding Aq os ⟨#[],#[],[]⟩with heap:=(World.holding Aq os ⟨#[],#[],[]⟩).heap.modify 0 λ |.cells _ t frozen=>Ak #[.iface 227 (.agg #[.pointer (K ⟨1,67,M⟩)])] t frozen|o=>o}:Y) #[Z M 0 0] rfl kR kR kR
   (OpenSpec.preRow_of_cond 8 h kR (λk f=>by cases f) kR (Xo os))) ?_
 intro W base args b c a g e _ _ _ d _ _;exact Ww H enc W base args b c a g e d
theorem said:Rows.FnCheatsSaid:=
 OpenClaim.holds_of_cond 5 Tryz.f5 rfl rfl rfl rfl rfl rfl rfl ⟨rfl,rfl,rfl,rfl,rfl⟩ rfl rfl rfl rfl rfl kR func5 kR
  (ph kR) (by unfold Func.isWrapper;first|(rw[mE (by decide+kernel)];kernel_rfl)|(rw[lY (by decide+kernel)];exact⟨rfl,rfl⟩))
  (λos a H enc _ F=>by rw[OpenClaim.pre_eq_preRow];exact rz os a H enc F)
theorem plain(f:FuncId)(fn:Func)(b:Tryz.pinned.checked.prog.funcNamed "loop.example/s02548/laws.FnCheats"=K f)(c:Tryz.pinned.checked.prog.funcs[f]?=K fn):
 true=Tryz.pinned.checked.prog.looks []/\∀(j:Nat) t,fn.params[j]?=K t->Tryz.pinned.checked.prog.wantsStandIn t=false:=by
 obtain rfl:f=5:=mD ((show Tryz.prog.funcNamed "loop.example/s02548/laws.FnCheats"=K 5 from kR).symm.trans b)|>.symm;obtain rfl:fn=Tryz.f5:=(mD (func5.symm.trans c)).symm;refine⟨kR, λj t a=> ?_⟩;rw[Tryz.params5]at a;obtain rfl:t=22:=by simpa using Array.mem_of_getElem? a
 exact(show Tryz.prog.wantsStandIn 22=false from kR)
theorem card:Rows.FnCheatsCardSaid:=Claim7.holds_tied_plain_at .later [] _ _ _ _ said (λ_ h=>by cases h) kR (λ_ h=>by cases h) fnCheats_row_tie rfl ⟨rfl,rfl⟩ kR rfl plain kR
#print axioms card
end Go.Proofs.YtkgohaigebcgoaaGreatDoor.fnCheats
namespace Go.Proofs.YtkgohaigebcgoaaGreatDoor
theorem fnCheats_holds:Rows.FnCheatsCardSaid:=fnCheats.card
end Go.Proofs.YtkgohaigebcgoaaGreatDoor
