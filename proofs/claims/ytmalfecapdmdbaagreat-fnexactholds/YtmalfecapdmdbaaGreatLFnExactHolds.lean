import Derived.Test.YtmalfecapdmdbaaGreatHo0
import Derived.Test.YtmalfecapdmdbaaGreatRows
import Derived.Test.YtmalfecapdmdbaaGreatHo1
import Derived.Test.YtmalfecapdmdbaaGreatHo52
import Derived.Test.YtmalfecapdmdbaaGreatHo23
import Derived.WalkKit
import Derived.ProofKit
import Derived.OpenShut
import Derived.ShutString
import Derived.ChangeOld
import Derived.Below
namespace Go.Proofs.YtmalfecapdmdbaaGreat.fnExactHolds
open Go.ChangeShapes Go.WideShapes Go.ChangeAt Go.RowKit
open Go.Value renaming slice → Z
open Option renaming some → K,none → M
open Go renaming Value → J,World → Y,Calls → Ai,TypeId → Aj
open Go.RowKit renaming Hid → Ae,Below → Ah
open Go.Obj renaming cells → Ak
open Go.Ending renaming returned → Al
open Go.Proofs.Tryz renaming prog → Ap
open Go.Proofs.Tryz
open Go.World renaming alloc → Ac
set_option linter.unusedVariables false
theorem own:ownKnob Tryz.prog.godebug=M:=kR
theorem Sn:laidOutB Ap=true:=kR
set_option maxRecDepth 100000 in
set_option maxHeartbeats 8000000 in
theorem Yx(d:VP)(b:MP)(v1:J)(h:List (List (List Int)))(w:Y)(h0:Da w d b)(b0:b.fits)(f0:b.wf)(h1:OH w v1 h)(b1:h.length<=9223372036854775807/\∀f∈h,f.length<=9223372036854775807/\∀g∈f,g.length<=9223372036854775807):
 Ai Ap 3 #[.agg #[d.r,d.k,d.f,d.t],v1] w λe w'=>e=Al (.bool true)/\Ah w.heap.size w w':=by
 have B0:Ae (CX (Ac w (Ak #[d.r,d.k,d.f,d.t] 27)) w.heap.size d.r d.k d.f d.t/\Ah w.heap.size w (Ac w (Ak #[d.r,d.k,d.f,d.t] 27))):=⟨CX.new w _ _ _ _ _,Aq _ _⟩
 obtain⟨ah,aj,rfl⟩:∃a c,v1=Z a h.length c:=h1.dk;have i:Ae (b.fits/\Da w d b/\b.wf/\True/\OH w (Z ah h.length aj) h/\h.length<=9223372036854775807/\∀f∈h,f.length<=9223372036854775807/\∀g∈f,g.length<=9223372036854775807):=⟨b0,h0,f0,trivial,h1,b1⟩
 clear b0 f0 h0 h1 b1;generalize aQ:h.length=n2 at i⊢;have aI:Ae (h.length=n2):=aQ;clear aQ;go_enter func3,ntmps3;go_upto_region 1 with fail
 refine Ax (λu=>Ae (CX u w.heap.size d.r d.k d.f d.t/\Ah w.heap.size w u)) B0 ?_
 rintro U0 S;clear B0;obtain⟨E,F,G,H⟩:=S.out.1;go_wp2_with fail;refine(MQ d b 1048576 U0 i.out.1 (i.out.2.1.a7 S.out.2 (Nat.le_refl _)) oM oM).mono ?_;rintro e u1 ⟨r1,rfl,ae,aq⟩;have C:Ae (CX u1 w.heap.size d.r d.k d.f d.t/\Ah w.heap.size w u1):=⟨S.out.1.a7 aq,Ar S.out.2 (Nat.le_refl _) aq⟩
 clear aq S E F G H;rcases ae with rfl|⟨aG,ae,aS⟩
 . go_wp2_with fail;go_ret;exact⟨rfl,C.out.2⟩
 have N:Ae b.small:=aS;clear aS;have aR:¬r1<0:=oM;go_wp2_with fail;refine(LT (Z ah n2 aj) h r1 u1 (by rw[aI.out];exact i.out.2.2.2.2.2.1) i.out.2.2.2.2.2.2 (i.out.2.2.2.2.1.a7 C.out.2 (Nat.le_refl _)) aG ae).mono ?_;rintro e u2 ⟨r2,rfl,bp,rfl⟩;rcases bp with rfl|⟨bi,bj,bo,aF⟩
 . clear aG ae aR;go_wp2_with fail;go_ret;exact⟨rfl,C.out.2⟩
 have A:Ae (h.length<=1048576/\∀f∈h,f.length<=1048576/\∀g∈f,g.length<=1048576):=⟨by have:=aI.out;omega, λf hf=>⟨by have:=(aF f hf).1;omega, λg hg=>by have:=(aF f hf).2 g hg;omega⟩⟩
 have bq:¬r2<0:=oM;clear aG ae aR bi bj bo aF;obtain⟨E,F,G,H⟩:=C.out.1;go_wp2_with fail;refine(FR d b u2 N.out (i.out.2.1.a7 C.out.2 (Nat.le_refl _))).mono ?_;rintro e u3 ⟨a1,c1,a2,c2,a3,c3,a4,c4,rfl,aT,au⟩;have T:Ae (CX u3 w.heap.size d.r d.k d.f d.t/\Ah w.heap.size w u3/\Da u3 ⟨Z a1 b.bO.length c1,Z a2 b.ej.length c2,Z a3 b.bW.length c3,Z a4 b.eD.length c4⟩ b):=⟨C.out.1.a7 au,Ar C.out.2 (Nat.le_refl _) au,aT.rd⟩
 clear aT au C E F G H bq;go_wp2_with fail;refine(Fy (Z ah n2 aj) h u3 A.out.1 A.out.2 (i.out.2.2.2.2.1.a7 T.out.2.1 (Nat.le_refl _))).mono ?_;rintro e u4 ⟨d1,g1,rfl,aU,ao⟩;have U:Ae (CX u4 w.heap.size d.r d.k d.f d.t/\Ah w.heap.size w u4/\Da u4 ⟨Z a1 b.bO.length c1,Z a2 b.ej.length c2,Z a3 b.bW.length c3,Z a4 b.eD.length c4⟩ b/\Iz u4 (Z d1 h.length g1) h):=⟨T.out.1.a7 ao,Ar T.out.2.1 (Nat.le_refl _) ao,T.out.2.2.a7 ao (Nat.le_refl _),aU.ss A.out.2⟩
 clear aU ao T;go_wp2_with fail;refine(MN h ⟨d1,h.length,g1⟩ ⟨Z a1 b.bO.length c1,Z a2 b.ej.length c2,Z a3 b.bW.length c3,Z a4 b.eD.length c4⟩ b u4 N.out i.out.2.2.1 U.out.2.2.1 U.out.2.2.2).mono ?_;rintro e Q ⟨⟨b5,rfl,aP⟩,aw⟩;have V:Ae (CX Q w.heap.size d.r d.k d.f d.t/\Ah w.heap.size w Q):=⟨U.out.1.a7 aw,Ar U.out.2.1 (Nat.le_refl _) aw⟩
 have aH:Ae (b5=true↔OP b h):=aP;clear aP aw U;obtain⟨E,F,G,H⟩:=V.out.1;go_wp2_with fail;refine(FR d b Q N.out (i.out.2.1.a7 V.out.2 (Nat.le_refl _))).mono ?_;rintro e I ⟨p,j,q,l,v,m,x,n,rfl,aW,aA⟩;have E5:Ae (CX (Ac I (Ak #[Z p b.bO.length j,Z q b.ej.length l,Z v b.bW.length m,Z x b.eD.length n] 36)) w.heap.size d.r d.k d.f d.t/\Ah w.heap.size w (Ac I (Ak #[Z p b.bO.length j,Z q b.ej.length l,Z v b.bW.length m,Z x b.eD.length n] 36))/\Ie (Ac I (Ak #[Z p b.bO.length j,Z q b.ej.length l,Z v b.bW.length m,Z x b.eD.length n] 36)) Q.heap.size ⟨Z p b.bO.length j,Z q b.ej.length l,Z v b.bW.length m,Z x b.eD.length n⟩ b/\CX (Ac I (Ak #[Z p b.bO.length j,Z q b.ej.length l,Z v b.bW.length m,Z x b.eD.length n] 36)) I.heap.size (Z p b.bO.length j) (Z q b.ej.length l) (Z v b.bW.length m) (Z x b.eD.length n)):=⟨(V.out.1.a7 aA).alloc _,Ar (Ar V.out.2 (Nat.le_refl _) aA) (Nat.le_refl _) (Aq _ _),aW.a7 (Aq _ _) (Nat.le_refl _),CX.new I _ _ _ _ _⟩
 clear aW aA V E F G H;go_upto_region 10 with fail
 generalize I.heap.size=X at E5⊢;refine Ax (λu=>Ae (CX u w.heap.size d.r d.k d.f d.t/\Ah w.heap.size w u/\Ie u Q.heap.size ⟨Z p b.bO.length j,Z q b.ej.length l,Z v b.bW.length m,Z x b.eD.length n⟩ b/\CX u X (Z p b.bO.length j) (Z q b.ej.length l) (Z v b.bW.length m) (Z x b.eD.length n))) E5 ?_
 rintro U7 L;clear E5;go_wp2_with fail;refine(Fy (Z ah n2 aj) h U7 A.out.1 A.out.2 (i.out.2.2.2.2.1.a7 L.out.2.1 (Nat.le_refl _))).mono ?_;rintro e R ⟨O,P,rfl,aX,W⟩;have y:Ae (CX R w.heap.size d.r d.k d.f d.t/\Ah w.heap.size w R/\Ie R Q.heap.size ⟨Z p b.bO.length j,Z q b.ej.length l,Z v b.bW.length m,Z x b.eD.length n⟩ b/\CX R X (Z p b.bO.length j) (Z q b.ej.length l) (Z v b.bW.length m) (Z x b.eD.length n)/\SF R U7.heap.size (Z O h.length P) h):=⟨L.out.1.a7 W,Ar L.out.2.1 (Nat.le_refl _) W,L.out.2.2.1.a7 W (Nat.le_refl _),L.out.2.2.2.a7 W,aX⟩
 clear aX W L;obtain⟨j0,j1,j2,j3⟩:=y.out.2.2.2.1;go_wp2_with fail;refine(Mx h ⟨O,h.length,P⟩ ⟨Z p b.bO.length j,Z q b.ej.length l,Z v b.bW.length m,Z x b.eD.length n⟩ b R N.out i.out.2.2.1 y.out.2.2.1.rd y.out.2.2.1.bO.rdc y.out.2.2.1.bW.rdp y.out.2.2.1.bW.rdk (y.out.2.2.2.2.ss A.out.2)).mono ?_;rintro e z ⟨⟨b9,rfl,bg⟩,B⟩;obtain rfl:b9=b5:=by have:=aH.out;cases b9<;>cases b5<;>simp_all
 have D:Ae (CX z w.heap.size d.r d.k d.f d.t/\Ah w.heap.size w z/\Da z ⟨Z p b.bO.length j,Z q b.ej.length l,Z v b.bW.length m,Z x b.eD.length n⟩ b/\CX z X (Z p b.bO.length j) (Z q b.ej.length l) (Z v b.bW.length m) (Z x b.eD.length n)/\OH z (Z O h.length P) h):=⟨y.out.1.a7 B,Ar y.out.2.1 (Nat.le_refl _) B,(y.out.2.2.1.a7 B (Nat.le_refl _)).rd,y.out.2.2.2.1.a7 B,y.out.2.2.2.2.rd.a7 B (Nat.le_refl _)⟩
 have R0:Ae (Da z d b):=i.out.2.1.a7 D.out.2.1 (Nat.le_refl _);clear bg B aH y j0 j1 j2 j3;obtain⟨E,F,G,H⟩:=D.out.1;obtain⟨j0,j1,j2,j3⟩:=D.out.2.2.2.1;go_upto_region 14 with fail
 go_cut [39] (λs wx=>s=.bool false/\Ae (Ah z.heap.size z wx))
 case first=>
  go_region_with (first
   |(go_at_call 7;refine(FR d b _ N.out ?_).mono ?_;exact R0.out.a7 (At _) (Nat.le_refl _);rintro e uA ⟨y1,l1,y2,l2,y3,l3,y4,l4,rfl,aY,B⟩;have B9:Ae (Ah z.heap.size z uA):=Bm B (Nat.le_refl _);have O9:Ae (Da uA ⟨Z y1 b.bO.length l1,Z y2 b.ej.length l2,Z y3 b.bW.length l3,Z y4 b.eD.length l4⟩ b):=aY.rd;clear aY B;obtain⟨k0,k1,k2,k3⟩:=D.out.2.2.2.1.a7 B9.out)
   |(go_at_call 10;refine(K8 ⟨Z p b.bO.length j,Z q b.ej.length l,Z v b.bW.length m,Z x b.eD.length n⟩ ⟨Z y1 b.bO.length l1,Z y2 b.ej.length l2,Z y3 b.bW.length l3,Z y4 b.eD.length l4⟩ b _ N.out ?_ ?_).mono ?_;exact D.out.2.2.1.a7 B9.out (Nat.le_refl _);exact O9.out;rintro e uB ⟨rfl,aJ⟩;have b7:Ae (Ah z.heap.size z uB):=Ar B9.out (Nat.le_refl _) aJ;clear aJ))
  all_goals(go_wp2_with fail;go_meet;exact⟨rfl,b7⟩)
 case rest=>
 obtain⟨rfl,HC⟩:=hcut;have E9:Ae (Ah w.heap.size w wc/\OH wc (Z O h.length P) h):=⟨Ar D.out.2.1 (Nat.le_refl _) HC.out,D.out.2.2.2.2.a7 HC.out (Nat.le_refl _)⟩
 clear HC D R0 E F G H j0 j1 j2 j3;go_wp2_with fail;refine(Fy (Z ah n2 aj) h wc A.out.1 A.out.2 (i.out.2.2.2.2.1.a7 E9.out.1 (Nat.le_refl _))).mono ?_;rintro e uC ⟨d3,g3,rfl,aZ,aE⟩;have am:Ae (Ah w.heap.size w uC/\OH uC (Z O h.length P) h/\OH uC (Z d3 h.length g3) h):=⟨Ar E9.out.1 (Nat.le_refl _) aE,E9.out.2.a7 aE (Nat.le_refl _),aZ.rd⟩
 clear aZ aE E9;go_wp2_with fail;refine(Kt (Z O h.length P) (Z d3 h.length g3) h uC A.out.1 A.out.2 am.out.2.1 am.out.2.2).mono ?_;rintro e uD ⟨rfl,aM⟩;have bf:Ae (Ah w.heap.size w uD):=Ar am.out.1 (Nat.le_refl _) aM;clear aM am;go_wp2_with fail;go_ret;exact⟨rfl,bf.out⟩
set_option maxRecDepth 100000 in
theorem Xi(os:Os)(am:os.Started)(H:Type)(enc:Aj×J->H):
 ReturnsInHanded {} Tryz.checked os 3 .any (Rows.fnExactHoldsSpec.pre6 enc Ap Tryz.f3 Rows.fnExactHoldsRow.domain false) (Rows.fnExactHoldsSpec.post enc Ap Tryz.f3 false true false false):=by
 refine returnsInHanded_of_change (C:=Tryz.checked) own am kR func3
  (ChangeSpec.witness6 (enc:=enc) (C:=Tryz.checked) false ⟨#[],#[.agg #[Z M 0 0,Z M 0 0,Z M 0 0,Z M 0 0],Z M 0 0],[]⟩ 8 kR kR kR kR) ?_
 intro W base args O gs ao z y aA _;have l:∀(j:Nat) t v,Tryz.f3.params[j]?=K t->args[j]?=K v->Value.okWide Ap W .any base t v:=z;have ae:=y;obtain⟨p,q,w,X,rfl,aE,aF⟩:=y;have u:DataW.TrodAll enc Ap W 0 (λ_=>true) true Tryz.f3.params.toList args.toList O p:=w;rw[Tryz.params3]at u l;obtain⟨F,aG,d0,aq,q0,r0,aw,rfl,rfl,D,u0⟩:=trodAll_cons u;obtain⟨G,aH,d1,au,q1,r1,rfl,rfl,rfl,E,u1⟩:=trodAll_cons u0;obtain⟨rfl,rfl,rfl⟩:=trodAll_nil u1;obtain rfl:args=#[F,G]:=by cases args;simp_all
 obtain⟨rfl,rfl⟩:=trodVars_none X;obtain⟨N,rfl,_⟩:=okWide_struct underlying27 (l 0 27 F rfl rfl);have A:=D;have ah:∀x∈q0,x.block<W.heap.size:=by obtain⟨m,i⟩:=A;exact DataW.trod_lt m _ _ _ i
 obtain⟨p0,v0,P,U,I,f0⟩:∃(p:MP) (v:VP),N=#[v.r,v.k,v.f,v.t]/\Da W v p/\p.fits/\p.wf:=by obtain⟨T,d⟩:=D;obtain⟨p,v,e,h,b,f⟩:=Oj d;exact⟨p,v,by apply Array.toList_inj.1;exact e,h,b,f⟩
 subst P;obtain⟨a,n,c,rfl⟩:=okWide_slice underlying28 (l 1 28 G rfl rfl);have B:=E;have aj:∀x∈q1,x.block<W.heap.size:=by obtain⟨m,i⟩:=B;exact DataW.trod_lt m _ _ _ i
 obtain⟨p1,V,L⟩:∃p:List (List (List Int)),OH W (Z a n c) p/\p.length<=9223372036854775807/\∀f∈p,f.length<=9223372036854775807/\∀g∈f,g.length<=9223372036854775807:=by
  obtain⟨T,d⟩:=E;obtain⟨s,S,e,h,b,f⟩:=Oi d;have R:s=Z a n c:=by have Q:[(Z a n c:J)]=[s]:=e;exact(List.cons.inj Q).1.symm
  subst R;simp[maxLen]at b f;exact⟨S,h,b,f⟩
 clear w z;refine(Yx v0 p0 _ p1 W U I f0 V L).mono λe W' ⟨he,bel⟩=> ?_
 subst he;exact⟨_,rfl,_,_,_,[],_,[],ae,trodAll_mk1 (shut_bool underlying4 _),(trodAll_cons_mk (Below.trod Sn kR (nB kR) A bel ah) (trodAll_cons_mk (Below.trod Sn kR (nB kR) B bel aj) trodAll_mk0)),rfl,bel.frame _, λh=>by cases h⟩
theorem over:Rows.fnExactHoldsRow.holds Tryz.pinned (OpenSpec.ofChange Rows.fnExactHoldsSpec):=
 OpenClaim.holds_of_wide 3 Tryz.f3 rfl rfl rfl rfl rfl rfl rfl ⟨rfl,rfl,rfl,rfl,rfl⟩ rfl rfl rfl rfl rfl kR func3 kR
  (nB kR) (by unfold Func.isWrapper;first|(rw[kZ (by decide+kernel)];kernel_rfl)|(rw[kP (by decide+kernel)];exact⟨rfl,rfl⟩))
  (λos a H enc _=>Xi os a H enc)
theorem proved:Rows.FnExactHoldsSaid:=over
#print axioms proved
end Go.Proofs.YtmalfecapdmdbaaGreat.fnExactHolds
namespace Go.Proofs.YtmalfecapdmdbaaGreat
theorem fnExactHolds_holds:Rows.FnExactHoldsSaid:=fnExactHolds.proved
end Go.Proofs.YtmalfecapdmdbaaGreat
