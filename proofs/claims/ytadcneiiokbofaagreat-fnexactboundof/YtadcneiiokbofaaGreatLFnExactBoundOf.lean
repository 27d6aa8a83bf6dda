import Derived.Test.YtadcneiiokbofaaGreatRows
import Derived.Test.YtadcneiiokbofaaGreatBo0
import Derived.Test.YtadcneiiokbofaaGreatBo52
import Derived.Test.YtadcneiiokbofaaGreatBo1
import Derived.Test.YtadcneiiokbofaaGreatBo19
import Derived.WalkKit
import Derived.ProofKit
import Derived.OpenShut
import Derived.ShutString
import Derived.ChangeOld
import Derived.Below
namespace Go.Proofs.YtadcneiiokbofaaGreat.fnExactBoundOf
open Go.ChangeShapes Go.WideShapes Go.ChangeAt Go.RowKit
open Go.Value renaming slice → Z
open Option renaming some → K,none → M
open Go renaming Value → J,World → Y,Calls → Ai,TypeId → Aj
open Go.RowKit renaming Below → Ah
open Go.Ending renaming returned → Al
open Go.Proofs.Tryz renaming prog → Ap
open Go.Proofs.Tryz
set_option linter.unusedVariables false
theorem own:ownKnob Tryz.prog.godebug=M:=kR
theorem WW:laidOutB Ap=true:=kR
set_option maxRecDepth 100000 in
set_option maxHeartbeats 8000000 in
theorem ZG(a:VP)(b:MP)(w:Y)(d:Dm w a b)(c:b.fits)(f0:b.wf):
 Ai Ap 3 #[.agg #[a.r,a.k,a.f,a.t]] w λe g=>e=Al (.bool true)/\Ah w.heap.size w g:=by
 exact RK a b w d c f0
set_option maxRecDepth 100000 in
theorem Yl(os:Os)(O:os.Started)(H:Type)(enc:Aj×J->H):
 ReturnsInHanded {} Tryz.checked os 3 .any (Rows.fnExactBoundOfSpec.pre6 enc Ap Tryz.f3 Rows.fnExactBoundOfRow.domain false) (Rows.fnExactBoundOfSpec.post enc Ap Tryz.f3 false true false false):=by
 refine returnsInHanded_of_change (C:=Tryz.checked) own O kR func3
  (ChangeSpec.witness6 (enc:=enc) (C:=Tryz.checked) false ⟨#[],#[.agg #[Z M 0 0,Z M 0 0,Z M 0 0,Z M 0 0]],[]⟩ 8 kR kR kR kR) ?_
 intro W base args y X S i d ah _;have g:∀(j:Nat) t v,Tryz.f3.params[j]?=K t->args[j]?=K v->Value.okWide Ap W .any base t v:=i;have D:=d;obtain⟨p,q,c,B,rfl,aj,am⟩:=d;have a:DataW.TrodAll enc Ap W 0 (λ_=>true) true Tryz.f3.params.toList args.toList y p:=c;rw[Tryz.params3]at a g;obtain⟨s,ao,T,U,N,r0,ae,rfl,rfl,n,P⟩:=trodAll_cons a;obtain⟨rfl,rfl,rfl⟩:=trodAll_nil P;obtain rfl:args=#[s]:=by cases args;simp_all
 obtain⟨rfl,rfl⟩:=trodVars_none B;obtain⟨w,rfl,_⟩:=okWide_struct underlying27 (g 0 27 s rfl rfl);have l:=n;have I:∀x∈N,x.block<W.heap.size:=by obtain⟨m,G⟩:=l;exact DataW.trod_lt m _ _ _ G
 obtain⟨L,Q,z,A,u,f0⟩:∃(p:MP) (v:VP),w=#[v.r,v.k,v.f,v.t]/\Dm W v p/\p.fits/\p.wf:=by obtain⟨V,F⟩:=n;obtain⟨p,v,e,h,b,f⟩:=O6 F;exact⟨p,v,by apply Array.toList_inj.1;exact e,h,b,f⟩
 subst z;clear c i;refine(ZG Q L W A u f0).mono λe R ⟨E,bel⟩=> ?_
 subst E;exact⟨_,rfl,_,_,_,[],_,[],D,trodAll_mk1 (shut_bool underlying4 _),(trodAll_cons_mk (Below.trod WW kR (o8 kR) l bel I) trodAll_mk0),rfl,bel.frame _, λh=>by cases h⟩
theorem over:Rows.fnExactBoundOfRow.holds Tryz.pinned (OpenSpec.ofChange Rows.fnExactBoundOfSpec):=
 OpenClaim.holds_of_wide 3 Tryz.f3 rfl rfl rfl rfl rfl rfl rfl ⟨rfl,rfl,rfl,rfl,rfl⟩ rfl rfl rfl rfl rfl kR func3 kR
  (o8 kR) (by unfold Func.isWrapper;first|(rw[lZ (by decide+kernel)];kernel_rfl)|(rw[lS (by decide+kernel)];exact⟨rfl,rfl⟩))
  (λos a H enc _=>Yl os a H enc)
theorem proved:Rows.FnExactBoundOfSaid:=over
#print axioms proved
end Go.Proofs.YtadcneiiokbofaaGreat.fnExactBoundOf
namespace Go.Proofs.YtadcneiiokbofaaGreat
theorem fnExactBoundOf_holds:Rows.FnExactBoundOfSaid:=fnExactBoundOf.proved
end Go.Proofs.YtadcneiiokbofaaGreat
