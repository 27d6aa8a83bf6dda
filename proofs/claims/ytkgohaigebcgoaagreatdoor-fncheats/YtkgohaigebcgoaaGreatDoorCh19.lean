import Derived.Test.YtkgohaigebcgoaaGreatDoorCh16
namespace Go.Proofs.YtkgohaigebcgoaaGreatDoor
open Go.ChangeShapes Go.WideShapes Go.ChangeAt Go.RowKit Go.Proofs.Tryz
set_option linter.unusedVariables false
open Go.Value renaming slice → Z,int → Ag,agg → An,tuple → Ap
open Option renaming none → M
open Go renaming Value → J,World → Y,Calls → Ai
open Go.RowKit renaming Hid → Ae,Below → Ah
open Go.Obj renaming cells → Ak
open Go.Proofs.Tryz renaming prog → Aq
open Go.World renaming setCell → Aa,ownsRow → Ab,alloc → Ac
open List renaming flatMap → Ad
set_option maxHeartbeats 4000000
set_option maxRecDepth 100000
theorem ME(j:MC)(B l top:Nat)(t:Int)(d:Bool)(c n:Int)(X:VS)(C:List (J×List MC))(K:List MC)(F:List (MG×J))(s:J)(p A gf c3:Nat)(y:MG×J)(op a b c':Int)(w:Y)(hB:B<= ↑w)(h:AB w B X C (K++[j]) F)(hm:BC w l t d c n X s)(hF: ↑F=top+1)(aJ:top<=1048576)(hy:F[top]?=some y)(Q:X.f=Z gf (top+1) c3)(hK:K.length<=1048576)(q:Nat)(z:MC)(ha:a=q)(R:y.1.aB[q]?=some z)(au:y.1.aB.length<=1048576):
 Ai Aq 98 #[.pointer l,An #[.pointer (some ⟨p,A,M⟩),.pointer (some ⟨gf,top*4,M⟩)],An #[op,a,b,c']] w (B4 w B l t d c n C K (F.set top ({y.1 with aB:=y.1.aB.set q j},y.2)) s X C F):=by
 subst ha;have V:Ae (AG w (Ac (Ac w (Ak #[.pointer (some ⟨p,A,M⟩),.pointer (some ⟨gf,top*4,M⟩)] 143)) (Ak #[op,q,b,c'] 25)) B l top t d c n X C (K++[j]) F s p A gf op q b c' X C F):=AG.of p A gf op q b c' hB h hm;have H:Ae (AB w B X C (K++[j]) F/\ ↑F=top+1/\F[top]?=some y):=⟨h,hF,hy⟩
 clear h hm hy;go_enter func98,ntmps98;go_upto_region 1 with fail
 refine Av (λu=>Ae (AG w u B l top t d c n X C (K++[j]) F s p A gf op q b c' X C F)/\Ah w w u) ⟨V,Ar (Al _ _) lR (Al _ _)⟩ ?_
 rintro U ⟨g,bU⟩;clear V;have f1:=g.fb.cell 1;have S:=g.ib.cell 1;simp only[lQ,lO,lS]at f1 S;obtain⟨_,_,N⟩:=g.j7 Q H.2.2;have ae:(y.2,y.1.aB)∈C++[(X.k,K++[j])]++Bh F:=by simp only[mA];exact .inr (lP (BA H.2.2))
 have aA:=(f7.1 R).1;rcases Bf (g.own.fg.own _ ae)with⟨_,e⟩|⟨O,cl,L⟩
 . simp only[]at e;omega
 simp only[]at L;have D:Ae (y.2=Z O y.1.aB cl/\y.1.aB[q]?=some z):=⟨L,R⟩
 have W:Ae (∀u {X':VS} {K':List MC},AB u B X' C K' F->Ab u B 193 2 (Z O y.1.aB cl) y.1.aB (Ad MC.cells y.1.aB)):= λu X' K' hu=>by have:=hu.fg.own (y.2,y.1.aB) (by simp only[mA];exact .inr (lP (BA H.2.2)));simp only[]at this;rw[D.1]at this;exact this
 rw[L]at N;have ax:(q:Int)<(y.1.aB:Int):=oM;generalize y.1.aB.length=nl at N ax au D W;have m:=As U;have nM:=(g.av m).own.kI (g.av m).mb;have aK:=g.hM;have aF:¬gf=l:= λe=>nM (.inr (.inr (.inl (by rw[Q,<-e];rfl))))
 have ai:=Au m f1;have aE:=Au m S;have aj:=Au m N;clear f1 S N Q ae L R aA;go_upto_region 1 with fail
 go_region_law (go_simp;go_at_call 151;refine(CZ B l t d c n X C K F s j _ (mC g.hB (g.av m).gv.size) (g.av m).own (g.av m).mb hK).mono ?_;rintro e T ⟨rfl,k',h1,h2,E,h4⟩;have P:Ae (AG w T B l top t d c n ⟨X.c,k',X.f⟩ C K F s p A gf op q b c' X C F):=(g.av m).pop h1 h2 E h4;have aH:=E.cell ai oS;have aM:=E.cell aE oS;have aI:=E.cell aj aF;have G:=P.own.jd (r:=(y.2,y.1.aB)) (by simp only[mA];exact .inr (lP (BA H.2.2))) D.1 D.2;obtain⟨aq,aG,aa⟩:=Dv (W.o T P.own);have I:=J9 (i:=q*2) aa j.type G.2;have t1:=G.1;have t2:=G.2;have t3:=I.1;have t4:=I.2.1;have t5:=I.2.2;have E3:Ae (AG w (Aa (Aa T ⟨O,q*2,M⟩ j.type) ⟨O,q*2+1,M⟩ (Ag .u32 j.word)) B l top t d c n ⟨X.c,k',X.f⟩ C K (F.set top ({y.1 with aB:=y.1.aB.set q j},y.2)) s p A gf op q b c' X C F):=P.kx H.2.2 D.1 D.2 j;clear G aq aa I;clear h1 h2 E h4);all_goals
  go_wp2_with fail;exact nR (v:=Ap #[]) kR rfl E3.ia
theorem VQ(j:MC)(B s top:Nat)(t:Int)(d:Bool)(c n:Int)(X:VS)(C:List (J×List MC))(K:List MC)(F:List (MG×J))(D:J)(A E gf c3:Nat)(y:MG×J)(op a b c':Int)(w:Y)(hB:B<= ↑w)(h:AB w B X C (K++[j]) F)(hm:BC w s t d c n X D)(hF: ↑F=top+1)(aR:top<=1048576)(hy:F[top]?=some y)(au:X.f=Z gf (top+1) c3)(hK:K.length<=1048576)(q p:Nat)(r:J×List MC)(z:MC)(ha:a=q)(hb:b=p)(L:C[q]?=some r)(S:r.2[p]?=some z)(aA:r.2.length<=1048576)(aT:C.length<=1048576):
 Ai Aq 100 #[.pointer s,An #[.pointer (some ⟨A,E,M⟩),.pointer (some ⟨gf,top*4,M⟩)],An #[op,a,b,c']] w (B4 w B s t d c n (C.set q (r.1,r.2.set p j)) K F D X C F):=by
 subst ha hb;have E0:Ae (AG w (Ac (Ac w (Ak #[.pointer (some ⟨A,E,M⟩),.pointer (some ⟨gf,top*4,M⟩)] 143)) (Ak #[op,q,p,c'] 25)) B s top t d c n X C (K++[j]) F D A E gf op q p c' X C F):=AG.of A E gf op q p c' hB h hm;have H:Ae (AB w B X C (K++[j]) F/\ ↑F=top+1/\F[top]?=some y):=⟨h,hF,hy⟩
 clear h hm hy;go_enter func100,ntmps100;go_upto_region 1 with fail
 refine Av (λu=>Ae (AG w u B s top t d c n X C (K++[j]) F D A E gf op q p c' X C F)/\Ah w w u) ⟨E0,Ar (Al _ _) lR (Al _ _)⟩ ?_
 rintro U ⟨g,bU⟩;clear E0;have V:=g.ib.cell 1;have W:=g.ib.cell 2;simp only[lQ,lO,lS]at V W;have aG:=(f7.1 L).1;have aF:=(f7.1 S).1;rcases Bf g.own.cells with⟨_,e⟩|⟨gc,c1,G⟩
 . omega
 have T:r∈C++[(X.k,K++[j])]++Bh F:=by simp only[mA];exact .inl (.inl (lP L))
 rcases Bf (g.own.fg.own _ T)with⟨_,e⟩|⟨R,cl,Q⟩
 . omega
 have m4:=g.mb.at.2.2.2.2.1;rw[G]at m4;have cc:=g.own.kq G L;rw[Q]at cc;obtain⟨aJ,aK⟩:=g.own.jd T Q S;have aW:(q:Int)<(C:Int):=oM;have aE:(p:Int)<(r.2:Int):=oM;have m:Ae (C[q]?=some r/\r.1=Z R r.2 cl/\r.2[p]?=some z):=⟨L,Q,S⟩
 have aq:Ae (X.c=Z gc C c1):=G;have aa:Ae (∀u {X':VS} {K':List MC},AB u B X' C K' F->Ab u B 193 2 (Z R r.2 cl) r.2 (Ad MC.cells r.2)):= λu X' K' hu=>by have:=hu.fg.own r (by simp only[mA];exact .inl (.inl (lP m.1)));rw[m.2.1]at this;exact this
 have l:=As U;have nM:=(g.av l).own.kI (g.av l).mb;have aS:=g.hM;have aM:¬gc=s:= λe=>nM (.inl (by rw[G,<-e];rfl))
 have aH:=Au l V;have aI:=Au l W;have aZ:=Au l m4;have ae:=Au l cc;generalize r.2.length=nr at ae aE aA m aa;clear V W m4 cc aJ aK au T Q S L G aG aF;go_upto_region 1 with fail
 go_region_law (go_simp;go_at_call 151;refine(CZ B s t d c n X C K F D j _ (mC g.hB (g.av l).gv.size) (g.av l).own (g.av l).mb hK).mono ?_;rintro e u1 ⟨rfl,k',h1,h2,I,h4⟩;have N:Ae (AG w u1 B s top t d c n ⟨X.c,k',X.f⟩ C K F D A E gf op q p c' X C F):=(g.av l).pop h1 h2 I h4;have aX:=I.cell aH oS;have aY:=I.cell aI oS;have aO:=I.cell ae aM;have O:=N.own.jd (r:=r) (by simp only[mA];exact .inl (.inl (lP m.1))) m.2.1 m.2.2;obtain⟨ax,aQ,ai⟩:=Dv (aa.o u1 N.own);have P:=J9 (i:=p*2) ai j.type O.2;have t1:=O.1;have t2:=O.2;have t3:=P.1;have t4:=P.2.1;have t5:=P.2.2;have aj:=N.mb.at.2.2.2.2.1;simp only[]at aj;rw[aq]at aj;have E3:Ae (AG w (Aa (Aa u1 ⟨R,p*2,M⟩ j.type) ⟨R,p*2+1,M⟩ (Ag .u32 j.word)) B s top t d c n ⟨X.c,k',X.f⟩ (C.set q (r.1,r.2.set p j)) K F D A E gf op q p c' X C F):=N.jq m.1 m.2.1 m.2.2 j;clear O ax ai P;clear h1 h2 I h4);all_goals
  go_wp2_with fail;exact nR (v:=Ap #[]) kR rfl E3.ia
end Go.Proofs.YtkgohaigebcgoaaGreatDoor
