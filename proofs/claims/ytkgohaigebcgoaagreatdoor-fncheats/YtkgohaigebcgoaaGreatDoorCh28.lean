import Derived.Test.YtkgohaigebcgoaaGreatDoorCh19
namespace Go.Proofs.YtkgohaigebcgoaaGreatDoor
open Go.ChangeShapes Go.WideShapes Go.ChangeAt Go.RowKit Go.Proofs.Tryz
set_option linter.unusedVariables false
open Go.Value renaming slice → Z,int → Ag,agg → An,tuple → Ap
open Option renaming none → M
open Go renaming Value → J,World → Y,Calls → Ai
open Go.RowKit renaming Hid → Ae,Below → Ah
open Go.IntKind renaming i64 → Af
open Go.Obj renaming cells → Ak
open Go.Ending renaming returned → Am
open Go.Proofs.Tryz renaming prog → Aq
open Go.World renaming alloc → Ac,setCell → Aa,ownsRow → Ab
open List renaming flatMap → Ad
set_option maxHeartbeats 4000000
set_option maxRecDepth 100000
theorem MQ(x y:Int)(w:Y):(Instr.field 193 (An #[x,Ag .u32 y]) 1).run Aq w=.ok (Ag .u32 y) w:=kR
def Wc(w:Y)(B g:Nat)(t:Int)(d:Bool)(c n:Int)(X:VS)(C:List (J×List MC))(K:List MC)(F:List (MG×J))(h:J)(ad:Addr)(e:Ending)(b:Y):Prop:=e=Am (.pointer (some ad))/\∃a,BC b g t d c n ⟨X.c,a,X.f⟩ h/\AB b B ⟨X.c,a,X.f⟩ C K F/\Bp (λj=>j=g) w b/\a.ownBlock=X.k.ownBlock
theorem LI(E:MC)(B l:Nat)(t:Int)(d:Bool)(c n:Int)(X:VS)(C:List (J×List MC))(K:List MC)(F:List (MG×J))(y:J)(op:Int)(q a g z b G H cl:Nat)(r:J×List MC)(w:Y)(hB:B<= ↑w)(h:AB w B X C (K++[E]) F)(S:BC w l t d c n X y)(hK:K.length<=1048576)(T:C[q]?=some r)(el:r.1=Z G H cl)(hp:a+b<H)(aG:H<=1048576)(aF:C.length<=1048576)(aj:E.word=z)(aa:b=z &&& g)(aq:z<=4294967295)(ai:g<=4294967295):
 Ai Aq 152 #[.pointer l,An #[op,q,a,g]] w (Wc w B l t d c n X C K F y ⟨G,(a+b)*2,M⟩):=by
 have aJ:=(f7.1 T).1;rcases Bf h.cells with⟨_,e⟩|⟨gc,c1,ec⟩
 . omega
 have aI:(q:Int)<(C:Int):=oM;have aH:(a:Int)+(b:Int)<(H:Int):=oM;have aA:bits .and Af (z:Int) (g:Int)=(b:Int):=by rw[Yz z g aq ai,aa]
 clear aa;have aO:IntKind.i64.wrap (z:Int)=(z:Int):=oY _ oM;have aK:IntKind.i64.wrap ((a:Int)+(b:Int))=(a:Int)+(b:Int):=oY _ oM;have aM:((a:Int)+(b:Int)).toNat=a+b:=oM;have au:0<=(a:Int)+(b:Int):=oM;have I:Ae (C[q]?=some r/\r.1=Z G H cl/\X.c=Z gc C c1):=⟨T,el,ec⟩
 have ax:=S.lt;have E0:Ae (BC (Ac w (Ak #[op,q,a,g] 25)) l t d c n X y/\AB (Ac w (Ak #[op,q,a,g] 25)) B X C (K++[E]) F/\Ay (Ac w (Ak #[op,q,a,g] 25)) w #[op,q,a,g] 25/\Ah w w (Ac w (Ak #[op,q,a,g] 25))):=⟨S.av (Al _ _),h.grow (Al _ _),Ay.new _ _ _,Al _ _⟩
 clear h S T el ec;go_enter func152,ntmps152;go_upto_region 1 with fail
 refine Av (λu=>Ae (BC u l t d c n X y/\AB u B X C (K++[E]) F/\Ay u w #[op,q,a,g] 25/\Ah w w u)) E0 ?_
 rintro U A;clear E0;have i3:=A.2.2.1.cell 3;simp only[lQ,lO,lS]at i3;have D:=As U;have ae:=Au D i3;clear i3;have aE:= λw=>MQ E.type (z:Int) w
 go_cut [5] (λs Q=>s=Ag Af (b:Int)/\∃v,Ae (BC Q l t d c n ⟨X.c,v,X.f⟩ y/\AB Q B ⟨X.c,v,X.f⟩ C K F/\Ay Q w #[op,q,a,g] 25/\Bp (λj=>j=l) w Q/\v.ownBlock=X.k.ownBlock))
 case first=>
  go_region_law (go_simp;go_at_call 151;refine(CZ B l t d c n X C K F y E _ (mC hB (mC A.2.2.2.size D.size)) (A.2.1.grow D) (A.1.av D) hK).mono ?_;rintro e P ⟨rfl,v,h1,h2,L,h4⟩;rw[aj];have aQ:=L.cell ae oS;have p:Ae (BC P l t d c n ⟨X.c,v,X.f⟩ y/\AB P B ⟨X.c,v,X.f⟩ C K F/\Ay P w #[op,q,a,g] 25/\Bp (λj=>j=l) w P/\v.ownBlock=X.k.ownBlock):=⟨h1,h2,L.eI (A.2.2.1.av D) oM,(Bp.of (R:= λj=>j=l) (Ar A.2.2.2 lR D)).trans L (λ_ _ e=>e),h4⟩;clear h1 h2 L h4)
  all_goals
   go_wp2_with fail;go_meet;exact⟨rfl,v,p⟩
 case rest=>
  obtain⟨rfl,v,p⟩:=hcut;clear A ae D;have N:=p.1.at.2.2.2.2.1;simp only[]at N;rw[I.2.2]at N;have cc:=p.2.1.kq (gc:=gc) (m:=C) (c:=c1) I.2.2 I.1;rw[I.2.1]at cc;have V:=p.2.2.1.cell 1;have W:=p.2.2.1.cell 2;simp only[lQ,lO,lS]at V W;have inst:=Ax.some wc;have J1:= λn:Ax wc=>Ax.cell N n
  have J2:= λn:Ax wc=>Ax.cell cc n
  have J3:= λn:Ax wc=>Ax.cell V n
  have J4:= λn:Ax wc=>Ax.cell W n
  go_wp2_with fail;refine AC kR kR ?_;repeat(go_big_quiet_step (fail))
  refine wpQuiet_nil ?_;rintro aR ⟨O,rfl⟩;have E3:Ae (Wc w B l t d c n X C K F y ⟨G,(a+b)*2,M⟩ (Am (.pointer (some ⟨G,(a+b)*2,M⟩))) O.u):=⟨rfl,v,p.1.av O.h,p.2.1.grow O.h,p.2.2.2.1.trans (.of (R:= λ_=>False) O.h) (λ_ _ e=>e.elim),p.2.2.2.2⟩;clear J1 J2 J3 J4 inst N cc V W;go_wp2_with fail;go_ret;exact E3
theorem SS(G:MC)(B l top:Nat)(t:Int)(d:Bool)(c n:Int)(X:VS)(C:List (J×List MC))(K:List MC)(F:List (MG×J))(m:J)(p s gf c3:Nat)(y:MG×J)(op a b c':Int)(w:Y)(hB:B<= ↑w)(h:AB w B X C (K++[G]) F)(hm:BC w l t d c n X m)(hF: ↑F=top+1)(ax:top<=1048576)(hy:F[top]?=some y)(aa:X.f=Z gf (top+1) c3)(V:K.length<=1048576)(q g j Q E R P cl:Nat)(r:J×List MC)(z:MC)(ha:a=q)(hb:b=g)(hc:c'=j)(hr:C[q]?=some r)(T:r.1=Z R P cl)(hz:r.2[g+E]?=some z)(hp:g+E<P)(aj:P<=1048576)(ai:C.length<=1048576)(aq:G.word=Q)(W:E=Q &&& j)(au:Q<=4294967295)(ae:j<=4294967295):
 Ai Aq 101 #[.pointer l,An #[.pointer (some ⟨p,s,M⟩),.pointer (some ⟨gf,top*4,M⟩)],An #[op,a,b,c']] w (B4 w B l t d c n C (K++[z]) F m X C F):=by
 subst ha hb hc;have S:Ae (AG w (Ac (Ac w (Ak #[.pointer (some ⟨p,s,M⟩),.pointer (some ⟨gf,top*4,M⟩)] 143)) (Ak #[op,q,g,j] 25)) B l top t d c n X C (K++[G]) F m p s gf op q g j X C F):=AG.of p s gf op q g j hB h hm;have H:Ae (AB w B X C (K++[G]) F/\ ↑F=top+1/\F[top]?=some y):=⟨h,hF,hy⟩
 clear h hm hy;go_enter func101,ntmps101;go_upto_region 1 with fail
 refine Av (λu=>Ae (AG w u B l top t d c n X C (K++[G]) F m p s gf op q g j X C F)/\Ah w w u) ⟨S,Ar (Al _ _) lR (Al _ _)⟩ ?_
 rintro U ⟨k,bU⟩;clear S;have i0:=k.ib.cell 0;have i1:=k.ib.cell 1;have i2:=k.ib.cell 2;have i3:=k.ib.cell 3;simp only[lQ,lO,lS]at i0 i1 i2 i3;have D:Ae (C[q]?=some r/\r.1=Z R P cl/\r.2[g+E]?=some z/\E=Q &&& j):=⟨hr,T,hz,W⟩
 clear hr T hz aa W;go_wp2_with fail;refine(LI G B l t d c n X C K F m op q g j Q E R P cl r U (mC k.hB k.gv.size) k.own k.mb V D.1 D.2.1 hp aj ai aq D.2.2.2 au ae).mono ?_;rintro e u1 ⟨rfl,k',I,L,N,O⟩;have A:Ae (AG w u1 B l top t d c n ⟨X.c,k',X.f⟩ C K F m p s gf op q g j X C F):=k.pop I L N O;clear I L N O i0 i1 i2 i3 k bU;obtain⟨t1,t2⟩:=A.own.jd (r:=r) (by simp only[mA];exact .inl (.inl (lP D.1))) D.2.1 D.2.2.1;go_wp2_with fail;refine(Dw B l t d c n ⟨X.c,k',X.f⟩ C K F m z u1 (mC A.hB A.gv.size) A.own A.mb V).mono ?_;rintro e u2 ⟨rfl,k2,I,L,N,O⟩;have E3:Ae (AG w u2 B l top t d c n ⟨X.c,k2,X.f⟩ C (K++[z]) F m p s gf op q g j X C F):=A.push I L N O;clear I L N O;go_wp2_with fail;exact nR (v:=Ap #[]) kR rfl E3.ia
theorem Ry(I j:MC)(B l top:Nat)(t:Int)(d:Bool)(c n:Int)(X:VS)(C:List (J×List MC))(K:List MC)(F:List (MG×J))(A:J)(E G gf c3:Nat)(y:MG×J)(op a b c':Int)(w:World)(hB:B<= ↑w)(h:AB w B X C (K++[I]++[j]) F)(hm:BC w l t d c n X A)(hF: ↑F=top+1)(aK:top<=1048576)(hy:F[top]?=some y)(aj:X.f=Z gf (top+1) c3)(hK:K.length<1048576)(q g k V s Q O cl:Nat)(r:J×List MC)(z:MC)(ha:a=q)(hb:b=g)(hc:c'=k)(hr:C[q]?=some r)(el:r.1=Z Q O cl)(hz:r.2[g+s]?=some z)(hp:g+s<O)(aE:O<=1048576)(aA:C.length<=1048576)(aF:I.word=V)(aa:s=V &&& k)(aG:V<=4294967295)(ax:k<=4294967295):
 Ai Aq 102 #[.pointer l,An #[.pointer (some ⟨E,G,M⟩),.pointer (some ⟨gf,top*4,M⟩)],An #[op,a,b,c']] w (B4 w B l t d c n (C.set q (r.1,r.2.set (g+s) j)) K F A X C F):=by
 subst ha hb hc;have E0:Ae (AG w (Ac (Ac w (Ak #[.pointer (some ⟨E,G,M⟩),.pointer (some ⟨gf,top*4,M⟩)] 143)) (Ak #[op,q,g,k] 25)) B l top t d c n X C (K++[I]++[j]) F A E G gf op q g k X C F):=AG.of E G gf op q g k hB h hm;have H:Ae (AB w B X C (K++[I]++[j]) F/\ ↑F=top+1/\F[top]?=some y):=⟨h,hF,hy⟩
 clear h hm hy;go_enter func102,ntmps102;go_upto_region 1 with fail
 refine Av (λu=>Ae (AG w u B l top t d c n X C (K++[I]++[j]) F A E G gf op q g k X C F)/\Ah w w u) ⟨E0,Ar (Al _ _) lR (Al _ _)⟩ ?_
 rintro U ⟨L,bU⟩;clear E0;have p:Ae (C[q]?=some r/\r.1=Z Q O cl/\r.2[g+s]?=some z/\s=V &&& k):=⟨hr,el,hz,aa⟩
 have ai:Ae (∀u {X':VS} {K':List MC},AB u B X' C K' F->Ab u B 193 2 (Z Q O cl) O (Ad MC.cells r.2)):= λu X' K' hu=>by have:=hu.fg.own r (by simp only[mA];exact .inl (.inl (lP p.1)));rw[p.2.1]at this;have e:=CM this;rw[e];rw[e]at this;exact this
 have aM:=L.hM;clear hr el hz aj aa;go_wp2_with fail;refine(CZ B l t d c n X C (K++[I]) F A j U (mC L.hB L.gv.size) L.own L.mb oT).mono ?_;rintro e P ⟨rfl,k',R,S,N,T⟩;have E2:Ae (AG w P B l top t d c n ⟨X.c,k',X.f⟩ C (K++[I]) F A E G gf op q g k X C F):=L.pop R S N T;clear R S N T L bU;have aq:(w:Nat)+1<P.heap.size:=E2.ib.lt;have EN:Ae (AG w (Ac P (Ak #[j.type,Ag .u32 j.word] 193)) B l top t d c n ⟨X.c,k',X.f⟩ C (K++[I]) F A E G gf op q g k X C F/\Ay (Ac P (Ak #[j.type,Ag .u32 j.word] 193)) P #[j.type,Ag .u32 j.word] 193):=⟨E2.av (Al _ _),Ay.new _ _ _⟩
 go_upto_region 2 with fail
 generalize P.heap.size=Y at EN aq⊢;refine Av (λu=>Ae (AG w u B l top t d c n ⟨X.c,k',X.f⟩ C (K++[I]) F A E G gf op q g k X C F/\Ay u Y #[j.type,Ag .u32 j.word] 193)) EN ?_
 rintro U2 m;clear EN E2;clear P;have v0:=m.2.cell 0;have v1:=m.2.cell 1;have i0:=m.1.ib.cell 0;have i1:=m.1.ib.cell 1;have i2:=m.1.ib.cell 2;have i3:=m.1.ib.cell 3;simp only[lQ,lO,lS]at v0 v1 i0 i1 i2 i3;have D:=As U2;have aH:=Au D v0;have aI:=Au D v1;have aO:=Au D i0;have aQ:=Au D i1;have aR:=Au D i2;have aS:=Au D i3;clear v0 v1 i0 i1 i2 i3;go_upto_region 2 with fail
 go_region_law (go_simp;go_at_call 152;refine(LI I B l t d c n ⟨X.c,k',X.f⟩ C K F A op q g k V s Q O cl r _ (mC m.1.hB (m.1.av D).gv.size) (m.1.av D).own (m.1.av D).mb oM p.1 p.2.1 hp aE aA aF p.2.2.2 aG ax).mono ?_;rintro e u3 ⟨rfl,k2,R,S,N,T⟩;have E4:Ae (AG w u3 B l top t d c n ⟨X.c,k2,X.f⟩ C K F A E G gf op q g k X C F):=(m.1.av D).pop R S N T;have aT:=N.cell aH oS;have aW:=N.cell aI oS;have W:=E4.own.jd (r:=r) (by simp only[mA];exact .inl (.inl (lP p.1))) p.2.1 p.2.2.1;obtain⟨au,aJ,ae⟩:=Dv (ai.o u3 E4.own);have T2:=J9 (i:=(g+s)*2) ae j.type W.2;have t1:=W.1;have t2:=W.2;have t3:=T2.1;have t4:=T2.2.1;have t5:=T2.2.2;have E5:Ae (AG w (Aa (Aa u3 ⟨Q,(g+s)*2,M⟩ j.type) ⟨Q,(g+s)*2+1,M⟩ (Ag .u32 j.word)) B l top t d c n ⟨X.c,k2,X.f⟩ (C.set q (r.1,r.2.set (g+s) j)) K F A E G gf op q g k X C F):=E4.jq p.1 p.2.1 p.2.2.1 j;clear W au ae T2 R S N T);all_goals
  go_wp2_with fail;exact nR (v:=Ap #[]) kR rfl E5.ia
end Go.Proofs.YtkgohaigebcgoaaGreatDoor
