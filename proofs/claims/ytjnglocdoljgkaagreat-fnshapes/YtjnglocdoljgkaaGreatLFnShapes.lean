import Derived.Test.YtjnglocdoljgkaaGreatSw0
import Derived.Test.YtjnglocdoljgkaaGreatRows
import Derived.Test.YtjnglocdoljgkaaGreatSw1
import Derived.Test.YtjnglocdoljgkaaGreatSw45
import Derived.Test.YtjnglocdoljgkaaGreatSw44
import Derived.Test.YtjnglocdoljgkaaGreatSw48
import Derived.Test.YtjnglocdoljgkaaGreatSw52
import Derived.Test.YtjnglocdoljgkaaGreatSw38
import Derived.Test.YtjnglocdoljgkaaGreatSw43
import Derived.WalkKit
import Derived.ProofKit
import Derived.OpenShut
import Derived.ShutString
import Derived.ChangeOld
import Derived.Below
namespace Go.Proofs.YtjnglocdoljgkaaGreat.fnShapes
open Go.ChangeShapes Go.WideShapes Go.ChangeAt Go.RowKit
open Go.Value renaming slice → Z
open Option renaming some → K,none → M
open Go renaming Value → J,World → Y,Calls → Ae,TypeId → Af
open Go.RowKit renaming Below → Ad
open Go.ChangeMaps (open_string shut_string)
set_option linter.unusedVariables false
theorem own:ownKnob Tryz.prog.godebug=M:=kR
theorem Rp:laidOutB Tryz.prog=true:=kR
def Q7(k:IntKind)(w:Y)(a:Option Addr)(len cap:Nat)(zs:List Int):Prop:=
 (a=M/\len=0/\cap=0/\zs=[])\/
 ∃x,a=K x/\len<=cap/\cap<=maxLen/\ ↑zs=cap/\(∀i,i< ↑zs->w.cell? (x.add i)=K (.int k (zs.getD i 0)))/\∀n∈zs,(Lit.int k n).wf=true
set_option maxRecDepth 100000 in
set_option maxHeartbeats 8000000 in
theorem YQ(f:Option Addr)(a h:Nat)(p:List Int)(g:Option Addr)(b i:Nat)(q:List Int)(w:Y)(j:Q7 .u8 w f a h p)(k:Q7 .u8 w g b i q):
 Ae Tryz.prog 3 #[Z f a h,Z g b i] w λe n=>e=.returned (.bool true)/\Ad w w n:=by
 have l:=Ij j;have m:=Ij k;clear j k;by_cases r:(1048576:Int)<(a:Int)
 . go_enter Tryz.func3,Tryz.ntmps3;go_wp2;go_ret;exact⟨rfl,lQ _ _⟩
 by_cases s:(1048576:Int)<(b:Int)
 . go_enter Tryz.func3,Tryz.ntmps3;go_wp2;go_ret;exact⟨rfl,lQ _ _⟩
 exact LQ (Nt OI) LT Iq KK Lu f g a h b i w oM oM l m
set_option maxRecDepth 100000 in
theorem WQ(os:Os)(a8:os.Started)(H:Type)(enc:Af×J->H):
 ReturnsInHanded {} Tryz.checked os 3 .any (Rows.fnShapesSpec.pre6 enc Tryz.prog Tryz.f3 Rows.fnShapesRow.domain false) (Rows.fnShapesSpec.post enc Tryz.prog Tryz.f3 false true false false):=by
 refine returnsInHanded_of_change (C:=Tryz.checked) own a8 kR Tryz.func3
  (ChangeSpec.witness6 (enc:=enc) (C:=Tryz.checked) false ⟨#[],#[Z M 0 0,Z M 0 0],[]⟩ 8 kR kR kR kR) ?_
 intro W base args P gs ae F E ao _;have k:∀(j:Nat) t v,Tryz.f3.params[j]?=K t->args[j]?=K v->Value.okWide Tryz.prog W .any base t v:=F;have S:=E;obtain⟨p,q,D,R,rfl,aq,au⟩:=E;have B:DataW.TrodAll enc Tryz.prog W 0 (λ_=>true) true Tryz.f3.params.toList args.toList P p:=D;rw[Tryz.params3]at B k;obtain⟨O,aw,d0,ah,X,q0,am,rfl,rfl,A,r0⟩:=trodAll_cons B;obtain⟨v1,aA,d1,aj,p1,q1,rfl,rfl,rfl,h1,r1⟩:=trodAll_cons r0;obtain⟨rfl,rfl,rfl⟩:=trodAll_nil r1;obtain rfl:args=#[O,v1]:=by cases args;simp_all
 obtain⟨rfl,rfl⟩:=trodVars_none R;obtain⟨s,L,y,rfl⟩:=okWide_slice Tryz.underlying22 (k 0 22 O rfl rfl);have G:=A;have U:∀x∈X,x.block<W.heap.size:=by obtain⟨m,b⟩:=G;exact DataW.trod_lt m _ _ _ b
 obtain⟨z0,w0⟩:∃zs,Q7 .u8 W s L y zs:=by
  obtain⟨Q,g⟩:=A;rcases open_ints Tryz.underlying22 Tryz.underlying5 kR g with⟨a,_⟩|⟨x,l,c,zs,a,_,i,b,r,_,f,n⟩
  . simp[Value.cells]at a;obtain⟨rfl,rfl,rfl⟩:=a;exact⟨[],.inl ⟨rfl,rfl,rfl,rfl⟩⟩
  simp[Value.cells]at a;obtain⟨rfl,rfl,rfl⟩:=a;exact⟨zs,.inr ⟨_,rfl,i,b,by simpa using r,f,n⟩⟩
 obtain⟨u,N,z,rfl⟩:=okWide_slice Tryz.underlying22 (k 1 22 v1 rfl rfl);have I:=h1;have V:∀x∈p1,x.block<W.heap.size:=by obtain⟨m,b⟩:=I;exact DataW.trod_lt m _ _ _ b
 obtain⟨z1,w1⟩:∃zs,Q7 .u8 W u N z zs:=by
  obtain⟨Q,g⟩:=h1;rcases open_ints Tryz.underlying22 Tryz.underlying5 kR g with⟨a,_⟩|⟨x,l,c,zs,a,_,i,b,r,_,f,n⟩
  . simp[Value.cells]at a;obtain⟨rfl,rfl,rfl⟩:=a;exact⟨[],.inl ⟨rfl,rfl,rfl,rfl⟩⟩
  simp[Value.cells]at a;obtain⟨rfl,rfl,rfl⟩:=a;exact⟨zs,.inr ⟨_,rfl,i,b,by simpa using r,f,n⟩⟩
 clear D F;refine(YQ s L y z0 u N z z1 W w0 w1).mono λe W' ⟨T,bel⟩=> ?_
 subst T;exact⟨_,rfl,_,_,_,[],_,[],S,trodAll_mk1 (shut_bool Tryz.underlying4 _),(trodAll_cons_mk (Below.trod Rp kR (oF kR) G bel U) (trodAll_cons_mk (Below.trod Rp kR (oF kR) I bel V) trodAll_mk0)),rfl,bel.frame _, λh=>by cases h⟩
theorem over:Rows.fnShapesRow.holds Tryz.pinned (OpenSpec.ofChange Rows.fnShapesSpec):=
 OpenClaim.holds_of_wide 3 Tryz.f3 rfl rfl rfl rfl rfl rfl rfl ⟨rfl,rfl,rfl,rfl,rfl⟩ rfl rfl rfl rfl rfl kR Tryz.func3 kR
  (oF kR) (by unfold Func.isWrapper;first|(rw[lS (by decide+kernel)];kernel_rfl)|(rw[lE (by decide+kernel)];exact⟨rfl,rfl⟩))
  (λos a H enc _=>WQ os a H enc)
theorem proved:Rows.FnShapesSaid:=over
#print axioms proved
end Go.Proofs.YtjnglocdoljgkaaGreat.fnShapes
namespace Go.Proofs.YtjnglocdoljgkaaGreat
theorem fnShapes_holds:Rows.FnShapesSaid:=fnShapes.proved
end Go.Proofs.YtjnglocdoljgkaaGreat
