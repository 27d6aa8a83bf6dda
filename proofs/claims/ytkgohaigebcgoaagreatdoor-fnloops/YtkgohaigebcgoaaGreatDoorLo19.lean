import Derived.Test.YtkgohaigebcgoaaGreatDoorLo16
namespace Go.Proofs.YtkgohaigebcgoaaGreatDoor
open Go.ChangeShapes Go.WideShapes Go.ChangeAt Go.RowKit Go.Proofs.Tryz
set_option linter.unusedVariables false
open Go.Value renaming slice → Z,int → Ag,agg → An,tuple → Ap
open Option renaming none → M
open Go renaming Value → J,World → Y,Calls → Ai
open Go.RowKit renaming Hid → Ae,Below → Ah
open Go.Obj renaming cells → Ak
open Go.Proofs.Tryz renaming prog → Aq
open Go.World renaming setCell → Aa,ownsRow → Ab,alloc → Ac
open List renaming flatMap → Ad
set_option maxHeartbeats 4000000
set_option maxRecDepth 100000
theorem MW(g:MC)(B j top:Nat)(t:Int)(d:Bool)(c n:Int)(X:VS)(C:List (J×List MC))(K:List MC)(F:List (MG×J))(p:J)(m s gf c3:Nat)(y:MG×J)(op a b c':Int)(w:Y)(hB:B<= ↑w)(h:AB w B X C (K++[g]) F)(hm:BF w j t d c n X p)(hF: ↑F=top+1)(aJ:top<=1048576)(hy:F[top]?=some y)(O:X.f=Z gf (top+1) c3)(hK:K.length<=1048576)(q:Nat)(z:MC)(ha:a=q)(P:y.1.a7[q]?=some z)(au:y.1.a7.length<=1048576):
 Ai Aq 98 #[.pointer j,An #[.pointer (some ⟨m,s,M⟩),.pointer (some ⟨gf,top*4,M⟩)],An #[op,a,b,c']] w (Cd w B j t d c n C K (F.set top ({y.1 with a7:=y.1.a7.set q g},y.2)) p X C F):=by
 subst ha;have S:Ae (AH w (Ac (Ac w (Ak #[.pointer (some ⟨m,s,M⟩),.pointer (some ⟨gf,top*4,M⟩)] 143)) (Ak #[op,q,b,c'] 25)) B j top t d c n X C (K++[g]) F p m s gf op q b c' X C F):=AH.of m s gf op q b c' hB h hm;have H:Ae (AB w B X C (K++[g]) F/\ ↑F=top+1/\F[top]?=some y):=⟨h,hF,hy⟩
 clear h hm hy;go_enter func98,ntmps98;go_upto_region 1 with fail
 refine Av (λu=>Ae (AH w u B j top t d c n X C (K++[g]) F p m s gf op q b c' X C F)/\Ah w w u) ⟨S,Ar (Al _ _) lR (Al _ _)⟩ ?_
 rintro U ⟨E1,bU⟩;clear S;have f1:=E1.fb.cell 1;have Q:=E1.ib.cell 1;simp only[i5,f8,i6]at f1 Q;obtain⟨_,_,I⟩:=E1.fV O H.2.2;have ae:(y.2,y.1.a7)∈C++[(X.k,K++[g])]++Bm F:=by simp only[jL];exact .inr (hC (BE H.2.2))
 have aA:=(f7.1 P).1;rcases Bi (E1.own.eT.own _ ae)with⟨_,e⟩|⟨L,cl,G⟩
 . simp only[]at e;omega
 simp only[]at G;have x:Ae (y.2=Z L y.1.a7 cl/\y.1.a7[q]?=some z):=⟨G,P⟩
 have T:Ae (∀u {V:VS} {K':List MC},AB u B V C K' F->Ab u B 193 2 (Z L y.1.a7 cl) y.1.a7 (Ad MC.cells y.1.a7)):= λu V K' hu=>by have:=hu.eT.own (y.2,y.1.a7) (by simp only[jL];exact .inr (hC (BE H.2.2)));simp only[]at this;rw[x.1]at this;exact this
 rw[G]at I;have ax:(q:Int)<(y.1.a7:Int):=oM;generalize y.1.a7.length=nl at I ax au x T;have l:=At U;have nM:=(E1.av l).own.iW (E1.av l).mb;have aK:=E1.hM;have aF:¬gf=j:= λe=>nM (.inr (.inr (.inl (by rw[O,<-e];rfl))))
 have ai:=Au l f1;have aE:=Au l Q;have aj:=Au l I;clear f1 Q I O ae G P aA;go_upto_region 1 with fail
 go_region_law (go_simp;go_at_call 151;refine(C6 B j t d c n X C K F p g _ (jN E1.hB (E1.av l).eX.size) (E1.av l).own (E1.av l).mb hK).mono ?_;rintro e R ⟨rfl,k',W,h2,A,h4⟩;have N:Ae (AH w R B j top t d c n ⟨X.c,k',X.f⟩ C K F p m s gf op q b c' X C F):=(E1.av l).pop W h2 A h4;have aH:=A.cell ai oS;have aM:=A.cell aE oS;have aI:=A.cell aj aF;have D:=N.own.fG (r:=(y.2,y.1.a7)) (by simp only[jL];exact .inr (hC (BE H.2.2))) x.1 x.2;obtain⟨aq,aG,aa⟩:=Dz (T.o R N.own);have E:=Ki (i:=q*2) aa g.type D.2;have t1:=D.1;have t2:=D.2;have t3:=E.1;have t4:=E.2.1;have t5:=E.2.2;have E3:Ae (AH w (Aa (Aa R ⟨L,q*2,M⟩ g.type) ⟨L,q*2+1,M⟩ (Ag .u32 g.word)) B j top t d c n ⟨X.c,k',X.f⟩ C K (F.set top ({y.1 with a7:=y.1.a7.set q g},y.2)) p m s gf op q b c' X C F):=N.io H.2.2 x.1 x.2 g;clear D aq aa E;clear W h2 A h4);all_goals
  go_wp2_with fail;exact lD (v:=Ap #[]) kR rfl E3.eY
theorem Wd(g:MC)(B m top:Nat)(t:Int)(d:Bool)(c n:Int)(X:VS)(C:List (J×List MC))(K:List MC)(F:List (MG×J))(x:J)(s A gf c3:Nat)(y:MG×J)(op a b c':Int)(w:Y)(hB:B<= ↑w)(h:AB w B X C (K++[g]) F)(hm:BF w m t d c n X x)(hF: ↑F=top+1)(aR:top<=1048576)(hy:F[top]?=some y)(au:X.f=Z gf (top+1) c3)(hK:K.length<=1048576)(q p:Nat)(r:J×List MC)(z:MC)(ha:a=q)(hb:b=p)(G:C[q]?=some r)(Q:r.2[p]?=some z)(aA:r.2.length<=1048576)(aT:C.length<=1048576):
 Ai Aq 100 #[.pointer m,An #[.pointer (some ⟨s,A,M⟩),.pointer (some ⟨gf,top*4,M⟩)],An #[op,a,b,c']] w (Cd w B m t d c n (C.set q (r.1,r.2.set p g)) K F x X C F):=by
 subst ha hb;have E0:Ae (AH w (Ac (Ac w (Ak #[.pointer (some ⟨s,A,M⟩),.pointer (some ⟨gf,top*4,M⟩)] 143)) (Ak #[op,q,p,c'] 25)) B m top t d c n X C (K++[g]) F x s A gf op q p c' X C F):=AH.of s A gf op q p c' hB h hm;have H:Ae (AB w B X C (K++[g]) F/\ ↑F=top+1/\F[top]?=some y):=⟨h,hF,hy⟩
 clear h hm hy;go_enter func100,ntmps100;go_upto_region 1 with fail
 refine Av (λu=>Ae (AH w u B m top t d c n X C (K++[g]) F x s A gf op q p c' X C F)/\Ah w w u) ⟨E0,Ar (Al _ _) lR (Al _ _)⟩ ?_
 rintro U ⟨E1,bU⟩;clear E0;have S:=E1.ib.cell 1;have T:=E1.ib.cell 2;simp only[i5,f8,i6]at S T;have aG:=(f7.1 G).1;have aF:=(f7.1 Q).1;rcases Bi E1.own.cells with⟨_,e⟩|⟨gc,c1,D⟩
 . omega
 have R:r∈C++[(X.k,K++[g])]++Bm F:=by simp only[jL];exact .inl (.inl (hC G))
 rcases Bi (E1.own.eT.own _ R)with⟨_,e⟩|⟨P,cl,O⟩
 . omega
 have V:=E1.mb.at.2.2.2.2.1;rw[D]at V;have cc:=E1.own.iA D G;rw[O]at cc;obtain⟨aJ,aK⟩:=E1.own.fG R O Q;have aW:(q:Int)<(C:Int):=oM;have aE:(p:Int)<(r.2:Int):=oM;have l:Ae (C[q]?=some r/\r.1=Z P r.2 cl/\r.2[p]?=some z):=⟨G,O,Q⟩
 have aq:Ae (X.c=Z gc C c1):=D;have aa:Ae (∀u {X':VS} {K':List MC},AB u B X' C K' F->Ab u B 193 2 (Z P r.2 cl) r.2 (Ad MC.cells r.2)):= λu X' K' hu=>by have:=hu.eT.own r (by simp only[jL];exact .inl (.inl (hC l.1)));rw[l.2.1]at this;exact this
 have j:=At U;have nM:=(E1.av j).own.iW (E1.av j).mb;have aS:=E1.hM;have aM:¬gc=m:= λe=>nM (.inl (by rw[D,<-e];rfl))
 have aH:=Au j S;have aI:=Au j T;have aZ:=Au j V;have ae:=Au j cc;generalize r.2.length=nr at ae aE aA l aa;clear S T V cc aJ aK au R O Q G D aG aF;go_upto_region 1 with fail
 go_region_law (go_simp;go_at_call 151;refine(C6 B m t d c n X C K F x g _ (jN E1.hB (E1.av j).eX.size) (E1.av j).own (E1.av j).mb hK).mono ?_;rintro e W ⟨rfl,k',h1,h2,E,h4⟩;have I:Ae (AH w W B m top t d c n ⟨X.c,k',X.f⟩ C K F x s A gf op q p c' X C F):=(E1.av j).pop h1 h2 E h4;have aX:=E.cell aH oS;have aY:=E.cell aI oS;have aO:=E.cell ae aM;have L:=I.own.fG (r:=r) (by simp only[jL];exact .inl (.inl (hC l.1))) l.2.1 l.2.2;obtain⟨ax,aQ,ai⟩:=Dz (aa.o W I.own);have N:=Ki (i:=p*2) ai g.type L.2;have t1:=L.1;have t2:=L.2;have t3:=N.1;have t4:=N.2.1;have t5:=N.2.2;have aj:=I.mb.at.2.2.2.2.1;simp only[]at aj;rw[aq]at aj;have E3:Ae (AH w (Aa (Aa W ⟨P,p*2,M⟩ g.type) ⟨P,p*2+1,M⟩ (Ag .u32 g.word)) B m top t d c n ⟨X.c,k',X.f⟩ (C.set q (r.1,r.2.set p g)) K F x s A gf op q p c' X C F):=I.fH l.1 l.2.1 l.2.2 g;clear L ax ai N;clear h1 h2 E h4);all_goals
  go_wp2_with fail;exact lD (v:=Ap #[]) kR rfl E3.eY
end Go.Proofs.YtkgohaigebcgoaaGreatDoor
