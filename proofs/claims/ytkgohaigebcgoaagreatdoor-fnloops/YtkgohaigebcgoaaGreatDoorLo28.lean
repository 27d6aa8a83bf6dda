import Derived.Test.YtkgohaigebcgoaaGreatDoorLo19
namespace Go.Proofs.YtkgohaigebcgoaaGreatDoor
open Go.ChangeShapes Go.WideShapes Go.ChangeAt Go.RowKit Go.Proofs.Tryz
set_option linter.unusedVariables false
open Go.Value renaming slice → Z,int → Ag,agg → An,tuple → Ap
open Option renaming none → M
open Go renaming Value → J,World → Y,Calls → Ai
open Go.RowKit renaming Hid → Ae,Below → Ah
open Go.IntKind renaming i64 → Af
open Go.Obj renaming cells → Ak
open Go.Ending renaming returned → Am
open Go.Proofs.Tryz renaming prog → Aq
open Go.World renaming alloc → Ac,setCell → Aa,ownsRow → Ab
open List renaming flatMap → Ad
set_option maxHeartbeats 4000000
set_option maxRecDepth 100000
theorem MZ(x y:Int)(w:Y):(Instr.field 193 (An #[x,Ag .u32 y]) 1).run Aq w=.ok (Ag .u32 y) w:=kR
def Wq(w:Y)(B g:Nat)(t:Int)(d:Bool)(c n:Int)(X:VS)(C:List (J×List MC))(K:List MC)(F:List (MG×J))(h:J)(ad:Addr)(e:Ending)(b:Y):Prop:=e=Am (.pointer (some ad))/\∃a,BF b g t d c n ⟨X.c,a,X.f⟩ h/\AB b B ⟨X.c,a,X.f⟩ C K F/\Bp (λj=>j=g) w b/\a.ownBlock=X.k.ownBlock
theorem LS(z:MC)(B i:Nat)(t:Int)(d:Bool)(c n:Int)(X:VS)(C:List (J×List MC))(K:List MC)(F:List (MG×J))(v:J)(op:Int)(q a g x b A D cl:Nat)(r:J×List MC)(w:Y)(hB:B<= ↑w)(h:AB w B X C (K++[z]) F)(O:BF w i t d c n X v)(hK:K.length<=1048576)(P:C[q]?=some r)(el:r.1=Z A D cl)(hp:a+b<D)(aG:D<=1048576)(aF:C.length<=1048576)(aj:z.word=x)(aa:b=x &&& g)(aq:x<=4294967295)(ai:g<=4294967295):
 Ai Aq 152 #[.pointer i,An #[op,q,a,g]] w (Wq w B i t d c n X C K F v ⟨A,(a+b)*2,M⟩):=by
 have aJ:=(f7.1 P).1;rcases Bi h.cells with⟨_,e⟩|⟨gc,c1,W⟩
 . omega
 have aI:(q:Int)<(C:Int):=oM;have aH:(a:Int)+(b:Int)<(D:Int):=oM;have aA:bits .and Af (x:Int) (g:Int)=(b:Int):=by rw[YZ x g aq ai,aa]
 clear aa;have aO:IntKind.i64.wrap (x:Int)=(x:Int):=lr _ oM;have aK:IntKind.i64.wrap ((a:Int)+(b:Int))=(a:Int)+(b:Int):=lr _ oM;have aM:((a:Int)+(b:Int)).toNat=a+b:=oM;have au:0<=(a:Int)+(b:Int):=oM;have E:Ae (C[q]?=some r/\r.1=Z A D cl/\X.c=Z gc C c1):=⟨P,el,W⟩
 have ax:=O.lt;have V:Ae (BF (Ac w (Ak #[op,q,a,g] 25)) i t d c n X v/\AB (Ac w (Ak #[op,q,a,g] 25)) B X C (K++[z]) F/\Ay (Ac w (Ak #[op,q,a,g] 25)) w #[op,q,a,g] 25/\Ah w w (Ac w (Ak #[op,q,a,g] 25))):=⟨O.av (Al _ _),h.grow (Al _ _),Ay.new _ _ _,Al _ _⟩
 clear h O P el W;go_enter func152,ntmps152;go_upto_region 1 with fail
 refine Av (λu=>Ae (BF u i t d c n X v/\AB u B X C (K++[z]) F/\Ay u w #[op,q,a,g] 25/\Ah w w u)) V ?_
 rintro U E1;clear V;have T:=E1.2.2.1.cell 3;simp only[i5,f8,i6]at T;have y:=At U;have ae:=Au y T;clear T;have aE:= λw=>MZ z.type (x:Int) w
 go_cut [5] (λs N=>s=Ag Af (b:Int)/\∃p,Ae (BF N i t d c n ⟨X.c,p,X.f⟩ v/\AB N B ⟨X.c,p,X.f⟩ C K F/\Ay N w #[op,q,a,g] 25/\Bp (λj=>j=i) w N/\p.ownBlock=X.k.ownBlock))
 case first=>
  go_region_law (go_simp;go_at_call 151;refine(C6 B i t d c n X C K F v z _ (jN hB (jN E1.2.2.2.size y.size)) (E1.2.1.grow y) (E1.1.av y) hK).mono ?_;rintro e L ⟨rfl,p,h1,h2,G,h4⟩;rw[aj];have aQ:=G.cell ae oS;have l:Ae (BF L i t d c n ⟨X.c,p,X.f⟩ v/\AB L B ⟨X.c,p,X.f⟩ C K F/\Ay L w #[op,q,a,g] 25/\Bp (λj=>j=i) w L/\p.ownBlock=X.k.ownBlock):=⟨h1,h2,G.eP (E1.2.2.1.av y) oM,(Bp.of (R:= λj=>j=i) (Ar E1.2.2.2 lR y)).trans G (λ_ _ e=>e),h4⟩;clear h1 h2 G h4)
  all_goals
   go_wp2_with fail;go_meet;exact⟨rfl,p,l⟩
 case rest=>
  obtain⟨rfl,p,l⟩:=hcut;clear E1 ae y;have H:=l.1.at.2.2.2.2.1;simp only[]at H;rw[E.2.2]at H;have cc:=l.2.1.iA (gc:=gc) (m:=C) (c:=c1) E.2.2 E.1;rw[E.2.1]at cc;have Q:=l.2.2.1.cell 1;have S:=l.2.2.1.cell 2;simp only[i5,f8,i6]at Q S;have inst:=Ax.some wc;have J1:= λn:Ax wc=>Ax.cell H n
  have J2:= λn:Ax wc=>Ax.cell cc n
  have J3:= λn:Ax wc=>Ax.cell Q n
  have J4:= λn:Ax wc=>Ax.cell S n
  go_wp2_with fail;refine AD kR kR ?_;repeat(go_big_quiet_step (fail))
  refine wpQuiet_nil ?_;rintro aR ⟨I,rfl⟩;have E3:Ae (Wq w B i t d c n X C K F v ⟨A,(a+b)*2,M⟩ (Am (.pointer (some ⟨A,(a+b)*2,M⟩))) I.u):=⟨rfl,p,l.1.av I.h,l.2.1.grow I.h,l.2.2.2.1.trans (.of (R:= λ_=>False) I.h) (λ_ _ e=>e.elim),l.2.2.2.2⟩;clear J1 J2 J3 J4 inst H cc Q S;go_wp2_with fail;go_ret;exact E3
theorem SX(A:MC)(B j top:Nat)(t:Int)(d:Bool)(c n:Int)(X:VS)(C:List (J×List MC))(K:List MC)(F:List (MG×J))(k:J)(l m gf c3:Nat)(y:MG×J)(op a b c':Int)(w:Y)(hB:B<= ↑w)(h:AB w B X C (K++[A]) F)(T:BF w j t d c n X k)(hF: ↑F=top+1)(ax:top<=1048576)(W:F[top]?=some y)(aa:X.f=Z gf (top+1) c3)(R:K.length<=1048576)(q g i N x O L cl:Nat)(r:J×List MC)(z:MC)(ha:a=q)(hb:b=g)(hc:c'=i)(V:C[q]?=some r)(Q:r.1=Z O L cl)(hz:r.2[g+x]?=some z)(hp:g+x<L)(aj:L<=1048576)(ai:C.length<=1048576)(aq:A.word=N)(S:x=N &&& i)(au:N<=4294967295)(ae:i<=4294967295):
 Ai Aq 101 #[.pointer j,An #[.pointer (some ⟨l,m,M⟩),.pointer (some ⟨gf,top*4,M⟩)],An #[op,a,b,c']] w (Cd w B j t d c n C (K++[z]) F k X C F):=by
 subst ha hb hc;have P:Ae (AH w (Ac (Ac w (Ak #[.pointer (some ⟨l,m,M⟩),.pointer (some ⟨gf,top*4,M⟩)] 143)) (Ak #[op,q,g,i] 25)) B j top t d c n X C (K++[A]) F k l m gf op q g i X C F):=AH.of l m gf op q g i hB h T;have H:Ae (AB w B X C (K++[A]) F/\ ↑F=top+1/\F[top]?=some y):=⟨h,hF,W⟩
 clear h T W;go_enter func101,ntmps101;go_upto_region 1 with fail
 refine Av (λu=>Ae (AH w u B j top t d c n X C (K++[A]) F k l m gf op q g i X C F)/\Ah w w u) ⟨P,Ar (Al _ _) lR (Al _ _)⟩ ?_
 rintro U ⟨E1,bU⟩;clear P;have i0:=E1.ib.cell 0;have i1:=E1.ib.cell 1;have i2:=E1.ib.cell 2;have i3:=E1.ib.cell 3;simp only[i5,f8,i6]at i0 i1 i2 i3;have s:Ae (C[q]?=some r/\r.1=Z O L cl/\r.2[g+x]?=some z/\x=N &&& i):=⟨V,Q,hz,S⟩
 clear V Q hz aa S;go_wp2_with fail;refine(LS A B j t d c n X C K F k op q g i N x O L cl r U (jN E1.hB E1.eX.size) E1.own E1.mb R s.1 s.2.1 hp aj ai aq s.2.2.2 au ae).mono ?_;rintro e u1 ⟨rfl,k',D,E,G,I⟩;have p:Ae (AH w u1 B j top t d c n ⟨X.c,k',X.f⟩ C K F k l m gf op q g i X C F):=E1.pop D E G I;clear D E G I i0 i1 i2 i3 E1 bU;obtain⟨t1,t2⟩:=p.own.fG (r:=r) (by simp only[jL];exact .inl (.inl (hC s.1))) s.2.1 s.2.2.1;go_wp2_with fail;refine(DA B j t d c n ⟨X.c,k',X.f⟩ C K F k z u1 (jN p.hB p.eX.size) p.own p.mb R).mono ?_;rintro e u2 ⟨rfl,k2,D,E,G,I⟩;have E3:Ae (AH w u2 B j top t d c n ⟨X.c,k2,X.f⟩ C (K++[z]) F k l m gf op q g i X C F):=p.push D E G I;clear D E G I;go_wp2_with fail;exact lD (v:=Ap #[]) kR rfl E3.eY
theorem RO(G j:MC)(B l top:Nat)(t:Int)(d:Bool)(c n:Int)(X:VS)(C:List (J×List MC))(K:List MC)(F:List (MG×J))(x:J)(D E gf c3:Nat)(y:MG×J)(op a b c':Int)(w:World)(hB:B<= ↑w)(h:AB w B X C (K++[G]++[j]) F)(hm:BF w l t d c n X x)(hF: ↑F=top+1)(aK:top<=1048576)(hy:F[top]?=some y)(aj:X.f=Z gf (top+1) c3)(hK:K.length<1048576)(q g k S s O L cl:Nat)(r:J×List MC)(z:MC)(ha:a=q)(hb:b=g)(hc:c'=k)(hr:C[q]?=some r)(el:r.1=Z O L cl)(hz:r.2[g+s]?=some z)(hp:g+s<L)(aE:L<=1048576)(aA:C.length<=1048576)(aF:G.word=S)(aa:s=S &&& k)(aG:S<=4294967295)(ax:k<=4294967295):
 Ai Aq 102 #[.pointer l,An #[.pointer (some ⟨D,E,M⟩),.pointer (some ⟨gf,top*4,M⟩)],An #[op,a,b,c']] w (Cd w B l t d c n (C.set q (r.1,r.2.set (g+s) j)) K F x X C F):=by
 subst ha hb hc;have E0:Ae (AH w (Ac (Ac w (Ak #[.pointer (some ⟨D,E,M⟩),.pointer (some ⟨gf,top*4,M⟩)] 143)) (Ak #[op,q,g,k] 25)) B l top t d c n X C (K++[G]++[j]) F x D E gf op q g k X C F):=AH.of D E gf op q g k hB h hm;have H:Ae (AB w B X C (K++[G]++[j]) F/\ ↑F=top+1/\F[top]?=some y):=⟨h,hF,hy⟩
 clear h hm hy;go_enter func102,ntmps102;go_upto_region 1 with fail
 refine Av (λu=>Ae (AH w u B l top t d c n X C (K++[G]++[j]) F x D E gf op q g k X C F)/\Ah w w u) ⟨E0,Ar (Al _ _) lR (Al _ _)⟩ ?_
 rintro U ⟨E1,bU⟩;clear E0;have p:Ae (C[q]?=some r/\r.1=Z O L cl/\r.2[g+s]?=some z/\s=S &&& k):=⟨hr,el,hz,aa⟩
 have ai:Ae (∀u {X':VS} {K':List MC},AB u B X' C K' F->Ab u B 193 2 (Z O L cl) L (Ad MC.cells r.2)):= λu X' K' hu=>by have:=hu.eT.own r (by simp only[jL];exact .inl (.inl (hC p.1)));rw[p.2.1]at this;have e:=CM this;rw[e];rw[e]at this;exact this
 have aM:=E1.hM;clear hr el hz aj aa;go_wp2_with fail;refine(C6 B l t d c n X C (K++[G]) F x j U (jN E1.hB E1.eX.size) E1.own E1.mb oT).mono ?_;rintro e N ⟨rfl,W,P,Q,I,R⟩;have E2:Ae (AH w N B l top t d c n ⟨X.c,W,X.f⟩ C (K++[G]) F x D E gf op q g k X C F):=E1.pop P Q I R;clear P Q I R E1 bU;have aq:(w:Nat)+1<N.heap.size:=E2.ib.lt;have EN:Ae (AH w (Ac N (Ak #[j.type,Ag .u32 j.word] 193)) B l top t d c n ⟨X.c,W,X.f⟩ C (K++[G]) F x D E gf op q g k X C F/\Ay (Ac N (Ak #[j.type,Ag .u32 j.word] 193)) N #[j.type,Ag .u32 j.word] 193):=⟨E2.av (Al _ _),Ay.new _ _ _⟩
 go_upto_region 2 with fail
 generalize N.heap.size=Y at EN aq⊢;refine Av (λu=>Ae (AH w u B l top t d c n ⟨X.c,W,X.f⟩ C (K++[G]) F x D E gf op q g k X C F/\Ay u Y #[j.type,Ag .u32 j.word] 193)) EN ?_
 rintro U2 m;clear EN E2;clear N;have v0:=m.2.cell 0;have v1:=m.2.cell 1;have i0:=m.1.ib.cell 0;have i1:=m.1.ib.cell 1;have i2:=m.1.ib.cell 2;have i3:=m.1.ib.cell 3;simp only[i5,f8,i6]at v0 v1 i0 i1 i2 i3;have A:=At U2;have aH:=Au A v0;have aI:=Au A v1;have aO:=Au A i0;have aQ:=Au A i1;have aR:=Au A i2;have aS:=Au A i3;clear v0 v1 i0 i1 i2 i3;go_upto_region 2 with fail
 go_region_law (go_simp;go_at_call 152;refine(LS G B l t d c n ⟨X.c,W,X.f⟩ C K F x op q g k S s O L cl r _ (jN m.1.hB (m.1.av A).eX.size) (m.1.av A).own (m.1.av A).mb oM p.1 p.2.1 hp aE aA aF p.2.2.2 aG ax).mono ?_;rintro e u3 ⟨rfl,k2,P,Q,I,R⟩;have E4:Ae (AH w u3 B l top t d c n ⟨X.c,k2,X.f⟩ C K F x D E gf op q g k X C F):=(m.1.av A).pop P Q I R;have aT:=I.cell aH oS;have aW:=I.cell aI oS;have T:=E4.own.fG (r:=r) (by simp only[jL];exact .inl (.inl (hC p.1))) p.2.1 p.2.2.1;obtain⟨au,aJ,ae⟩:=Dz (ai.o u3 E4.own);have V:=Ki (i:=(g+s)*2) ae j.type T.2;have t1:=T.1;have t2:=T.2;have t3:=V.1;have t4:=V.2.1;have t5:=V.2.2;have E5:Ae (AH w (Aa (Aa u3 ⟨O,(g+s)*2,M⟩ j.type) ⟨O,(g+s)*2+1,M⟩ (Ag .u32 j.word)) B l top t d c n ⟨X.c,k2,X.f⟩ (C.set q (r.1,r.2.set (g+s) j)) K F x D E gf op q g k X C F):=E4.fH p.1 p.2.1 p.2.2.1 j;clear T au ae V P Q I R);all_goals
  go_wp2_with fail;exact lD (v:=Ap #[]) kR rfl E5.eY
end Go.Proofs.YtkgohaigebcgoaaGreatDoor
