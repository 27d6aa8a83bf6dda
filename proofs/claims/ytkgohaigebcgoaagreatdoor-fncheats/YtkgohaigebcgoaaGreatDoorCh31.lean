import Derived.Test.YtkgohaigebcgoaaGreatDoorCh28
namespace Go.Proofs.YtkgohaigebcgoaaGreatDoor
open Go.ChangeShapes Go.WideShapes Go.ChangeAt Go.RowKit Go.Proofs.Tryz
set_option linter.unusedVariables false
open Go.Value renaming slice → Z,int → Ag,agg → An,bool → Ao,tuple → Ap
open Option renaming none → M
open Go renaming Value → J,World → Y,Calls → Ai
open Go.RowKit renaming Hid → Ae,Below → Ah
open Go.IntKind renaming i64 → Af
open Go.Obj renaming cells → Ak
open Go.Proofs.Tryz renaming prog → Aq
open Go.World renaming setCell → Aa,ownsRow → Ab
open List renaming flatMap → Ad
set_option maxHeartbeats 4000000
set_option maxRecDepth 100000
theorem SR(g:MC)(B j top:Nat)(t:Int)(d:Bool)(c n:Int)(X:VS)(C:List (J×List MC))(K:List MC)(F:List (MG×J))(l:J)(k m gf c3:Nat)(y:MG×J)(op a b c':Int)(w:Y)(hB:B<= ↑w)(h:AB w B X C (K++[g]) F)(Q:BC w j t d c n X l)(hF: ↑F=top+1)(ai:top<=1048576)(R:F[top]?=some y)(P:X.f=Z gf (top+1) c3)(hK:K.length<=1048576)(aq:g.type=1)(S:g.word=0):
 Ai Aq 110 #[.pointer j,An #[.pointer (some ⟨k,m,M⟩),.pointer (some ⟨gf,top*4,M⟩)],An #[op,a,b,c']] w (B4 w B j t d c n C K (F.set top ({y.1 with at_:=c'},y.2)) l X C F):=by
 have z:Ae (AG w ((w.alloc (Ak #[.pointer (some ⟨k,m,M⟩),.pointer (some ⟨gf,top*4,M⟩)] 143)).alloc (Ak #[op,a,b,c'] 25)) B j top t d c n X C (K++[g]) F l k m gf op a b c' X C F):=AG.of k m gf op a b c' hB h Q;have H:Ae (AB w B X C (K++[g]) F/\ ↑F=top+1/\F[top]?=some y):=⟨h,hF,R⟩
 clear h Q R;go_enter func110,ntmps110;go_upto_region 1 with fail
 refine Av (λu=>Ae (AG w u B j top t d c n X C (K++[g]) F l k m gf op a b c' X C F)/\Ah w w u) ⟨z,Ar (Al _ _) lR (Al _ _)⟩ ?_
 rintro U ⟨p,W⟩;clear z;have D:Ae (X.f=Z gf (top+1) c3):=P;have aj:=p.hM;have e0:∀w,(binOp .eql 193 (An #[Ag Af 1,Ag .u32 g.word]) (An #[Ag Af 1,Ag .u32 0])).run Aq w=.ok (Ao (decide (1=(1:Int)/\g.word=0))) w:=Fh 1 g.word 1 0
 have G:decide (1=(1:Int)/\g.word=0)=true:=by simp[S]
 rw[G]at e0;clear P S G;go_wp2_with fail;refine(CZ B j t d c n X C K F l g U (mC p.hB p.gv.size) p.own p.mb hK).mono ?_;rintro e s ⟨rfl,r,I,L,N,O⟩;have A:Ae (AG w s B j top t d c n ⟨X.c,r,X.f⟩ C K F l k m gf op a b c' X C F):=p.pop I L N O;clear I L N O p W;go_wp2_with fail;refine(FC 1 s).mono ?_;rintro e T ⟨rfl,E⟩;have q:Ae (AG w T B j top t d c n ⟨X.c,r,X.f⟩ C K F l k m gf op a b c' X C F):=A.av E;clear A E;clear s;go_upto_region 2 with fail
 have f1:=q.fb.cell 1;have i3:=q.ib.cell 3;simp only[lQ,lO,lS]at f1 i3;obtain⟨aa,ae,_⟩:=q.j7 D H.2.2;have V:Ae (AG w (Aa T ⟨gf,top*4+1,M⟩ c') B j top t d c n ⟨X.c,r,X.f⟩ C K (F.set top ({y.1 with at_:=c'},y.2)) l k m gf op a b c' X C F):=q.jump D H.2.2 c';go_wp2_with fail;exact nR (v:=Ap #[]) kR rfl V.ia
theorem SQ(g:MC)(B j top:Nat)(t:Int)(d:Bool)(c n:Int)(X:VS)(C:List (J×List MC))(K:List MC)(F:List (MG×J))(m:J)(l p gf c3:Nat)(y:MG×J)(op a b c':Int)(w:Y)(V:B<= ↑w)(h:AB w B X C (K++[g]) F)(N:BC w j t d c n X m)(W: ↑F=top+1)(ae:top<=1048576)(O:F[top]?=some y)(L:X.f=Z gf (top+1) c3)(hK:K.length<=1048576)(aj:g.type=1)(P:¬g.word=0):
 Ai Aq 110 #[.pointer j,An #[.pointer (some ⟨l,p,M⟩),.pointer (some ⟨gf,top*4,M⟩)],An #[op,a,b,c']] w (B4 w B j t d c n C K F m X C F):=by
 have r:Ae (AG w ((w.alloc (Ak #[.pointer (some ⟨l,p,M⟩),.pointer (some ⟨gf,top*4,M⟩)] 143)).alloc (Ak #[op,a,b,c'] 25)) B j top t d c n X C (K++[g]) F m l p gf op a b c' X C F):=AG.of l p gf op a b c' V h N;have H:Ae (AB w B X C (K++[g]) F/\ ↑F=top+1/\F[top]?=some y):=⟨h,W,O⟩
 clear h N O;go_enter func110,ntmps110;go_upto_region 1 with fail
 refine Av (λu=>Ae (AG w u B j top t d c n X C (K++[g]) F m l p gf op a b c' X C F)/\Ah w w u) ⟨r,Ar (Al _ _) lR (Al _ _)⟩ ?_
 rintro U ⟨k,S⟩;clear r;have aa:Ae (X.f=Z gf (top+1) c3):=L;have ai:=k.hM;have T:∀w,(binOp .eql 193 (An #[Ag Af 1,Ag .u32 g.word]) (An #[Ag Af 1,Ag .u32 0])).run Aq w=.ok (Ao (decide (1=(1:Int)/\g.word=0))) w:=Fh 1 g.word 1 0
 have A:decide (1=(1:Int)/\g.word=0)=false:=by simp[P]
 rw[A]at T;clear L P A;go_wp2_with fail;refine(CZ B j t d c n X C K F m g U (mC k.hB k.gv.size) k.own k.mb hK).mono ?_;rintro e q ⟨rfl,Q,D,E,G,I⟩;have s:Ae (AG w q B j top t d c n ⟨X.c,Q,X.f⟩ C K F m l p gf op a b c' X C F):=k.pop D E G I;clear D E G I k S;go_wp2_with fail;refine(FC 1 q).mono ?_;rintro e u2 ⟨rfl,z⟩;have R:Ae (AG w u2 B j top t d c n ⟨X.c,Q,X.f⟩ C K F m l p gf op a b c' X C F):=s.av z;clear s z;clear q;go_wp2_with fail;exact nR (v:=Ap #[]) kR rfl R.ia
theorem AG.jO{w u:Y}{B p top:Nat}{t:Int}{d:Bool}{c n:Int}{X:VS}{C:List (J×List MC)}{K:List MC}{F:List (MG×J)}{v:J}{s E gf:Nat}{op a b c':Int}{r:VS}{l:List (J×List MC)}{m:List (MG×J)}(h:AG w u B p top t d c n X C K F v s E gf op a b c' r l m){y:MG×J}{k A cl q:Nat}{G:MC}(g:F[top]?=some y)(e:y.2=Z k A cl)(O:y.1.aB[q]?=some G)(z:Int):AG w (Aa u ⟨k,q*2+1,M⟩ (Ag .u32 z)) B p top t d c n X C K (F.set top ({y.1 with aB:=y.1.aB.set q ⟨G.type,z⟩},y.2)) v s E gf op a b c' r l m:=by
 have P:F[top]?=some (y.1,Z k A cl):=by rw[g,<-e]
 obtain⟨D,H⟩:=h.own.jO (mC h.hB h.gv.size) P O z;rw[<-e]at D;have f:=h.own.fg.own (y.2,y.1.aB) (by simp only[mA];exact .inr (lP (BA g)));simp only[]at f;rw[e]at f;have N:=CM f;subst N;obtain⟨R,Q,I⟩:=Dv f;exact h.rows H D (.inr (.inr (.inr (.inr ⟨_,lP (BA g),by simp only[];rw[e];rfl⟩)))) I dC (λj L=>L.loc g)
theorem Y8(B g top:Nat)(t:Int)(d:Bool)(c n:Int)(X:VS)(C:List (J×List MC))(K:List MC)(F:List (MG×J))(p:J)(j l gf c3:Nat)(y:MG×J)(op a b c':Int)(w:Y)(hB:B<= ↑w)(h:AB w B X C K F)(W:BC w g t d c n X p)(hF: ↑F=top+1)(aI:top<=1048576)(hy:F[top]?=some y)(G:X.f=Z gf (top+1) c3)(q:Nat)(z:MC)(ha:a=q)(E:y.1.aB[q]?=some z)(aA:y.1.aB.length<=1048576)(aa:z.type=3)(ae:0<=z.word)(ai:z.word<=4294967295)(aj:z.word=0):
 Ai Aq 111 #[.pointer g,An #[.pointer (some ⟨j,l,M⟩),.pointer (some ⟨gf,top*4,M⟩)],An #[op,a,b,c']] w (B4 w B g t d c n C K (F.set top ({y.1 with at_:=c'},y.2)) p X C F):=by
 subst ha;have O:Ae (AG w ((w.alloc (Ak #[.pointer (some ⟨j,l,M⟩),.pointer (some ⟨gf,top*4,M⟩)] 143)).alloc (Ak #[op,q,b,c'] 25)) B g top t d c n X C K F p j l gf op q b c' X C F):=AG.of j l gf op q b c' hB h W;have H:Ae (AB w B X C K F/\ ↑F=top+1/\F[top]?=some y):=⟨h,hF,hy⟩
 clear h W hy;go_enter func111,ntmps111;go_upto_region 1 with fail
 refine Av (λu=>Ae (AG w u B g top t d c n X C K F p j l gf op q b c' X C F)/\Ah w w u) ⟨O,Ar (Al _ _) lR (Al _ _)⟩ ?_
 rintro U ⟨m,bU⟩;clear O;have Q:Ae (X.f=Z gf (top+1) c3):=G;have f1:=m.fb.cell 1;have L:=m.ib.cell 1;simp only[lQ,lO,lS]at f1 L;obtain⟨_,_,D⟩:=m.j7 G H.2.2;have I:(y.2,y.1.aB)∈C++[(X.k,K)]++Bh F:=by simp only[mA];exact .inr (lP (BA H.2.2))
 have aF:=(f7.1 E).1;rcases Bf (m.own.fg.own _ I)with⟨_,e⟩|⟨V,cl,s⟩
 . simp only[]at e;omega
 simp only[]at s;obtain⟨N,aq⟩:=m.own.jd I s E;have P:Ae (y.2=Z V y.1.aB cl/\y.1.aB[q]?=some z):=⟨s,E⟩
 have ax:Ae (∀u {R:VS} {K':List MC},AB u B R C K' F->Ab u B 193 2 (Z V y.1.aB cl) y.1.aB (Ad MC.cells y.1.aB)):= λu R K' hu=>by have:=hu.fg.own (y.2,y.1.aB) (by simp only[mA];exact .inr (lP (BA H.2.2)));simp only[]at this;rw[P.1]at this;exact this
 rw[s]at D;have aE:(q:Int)<(y.1.aB:Int):=oM;generalize y.1.aB.length=nl at D aE aA P ax;rw[aa]at N;have inst:=Ax.some U;have J1:= λn:Ax U=>Ax.cell f1 n
 have J2:= λn:Ax U=>Ax.cell L n
 have J3:= λn:Ax U=>Ax.cell D n
 have J4:= λn:Ax U=>Ax.cell N n
 have J5:= λn:Ax U=>Ax.cell aq n
 clear G I s E aF aa;have S:∀w,(binOp .eql 193 (An #[Ag Af 3,Ag .u32 z.word]) (An #[Ag Af 3,Ag .u32 0])).run Aq w=.ok (Ao (decide (3=(3:Int)/\z.word=0))) w:=Fh 3 z.word 3 0
 have T:decide (3=(3:Int)/\z.word=0)=true:=by simp[aj]
 rw[T]at S;have HW:Ae (0<=z.word/\z.word<=4294967295):=⟨ae,ai⟩
 clear T aj ae ai;go_wp2_with fail;refine AC kR kR ?_;repeat(go_big_quiet_step ((go_at_call 78;rename_i r;exact(FC 3 r.u).mono λe au h=>⟨h.1,⟨⟨au,Ar r.h lR h.2⟩,rfl⟩⟩)))
 refine wpQuiet_nil ?_;rintro au ⟨r,rfl⟩;have A:Ae (AG w r.u B g top t d c n X C K F p j l gf op q b c' X C F):=m.av r.h;clear J1 J2 J3 J4 J5 inst f1 L D N aq S;have f1:=A.fb.cell 1;have i3:=A.ib.cell 3;simp only[lQ,lO,lS]at f1 i3;obtain⟨aG,aH,_⟩:=A.j7 Q H.2.2;have E9:Ae (AG w (r.u.setCell ⟨gf,top*4+1,M⟩ c') B g top t d c n X C K (F.set top ({y.1 with at_:=c'},y.2)) p j l gf op q b c' X C F):=A.jump Q H.2.2 c';go_wp2_with fail;exact mM (v:=Ap #[]) kR rfl E9.ia
theorem Y7(B p top:Nat)(t:Int)(d:Bool)(c n:Int)(X:VS)(C:List (J×List MC))(K:List MC)(F:List (MG×J))(I:J)(s E gf c3:Nat)(y:MG×J)(op a b c':Int)(w:Y)(hB:B<= ↑w)(h:AB w B X C K F)(hm:BC w p t d c n X I)(hF: ↑F=top+1)(aK:top<=1048576)(hy:F[top]?=some y)(R:X.f=Z gf (top+1) c3)(q:Nat)(z:MC)(ha:a=q)(Q:y.1.aB[q]?=some z)(aF:y.1.aB.length<=1048576)(ae:z.type=3)(ai:0<=z.word)(aj:z.word<=4294967295)(aq:¬z.word=0):
 Ai Aq 111 #[.pointer p,An #[.pointer (some ⟨s,E,M⟩),.pointer (some ⟨gf,top*4,M⟩)],An #[op,a,b,c']] w (B4 w B p t d c n C K (F.set top ({y.1 with aB:=y.1.aB.set q ⟨z.type,z.word-1⟩},y.2)) I X C F):=by
 subst ha;have T:Ae (AG w ((w.alloc (Ak #[.pointer (some ⟨s,E,M⟩),.pointer (some ⟨gf,top*4,M⟩)] 143)).alloc (Ak #[op,q,b,c'] 25)) B p top t d c n X C K F I s E gf op q b c' X C F):=AG.of s E gf op q b c' hB h hm;have H:Ae (AB w B X C K F/\ ↑F=top+1/\F[top]?=some y):=⟨h,hF,hy⟩
 clear h hm hy;go_enter func111,ntmps111;go_upto_region 1 with fail
 refine Av (λu=>Ae (AG w u B p top t d c n X C K F I s E gf op q b c' X C F)/\Ah w w u) ⟨T,Ar (Al _ _) lR (Al _ _)⟩ ?_
 rintro U ⟨j,bU⟩;clear T;have ax:Ae (X.f=Z gf (top+1) c3):=R;have f1:=j.fb.cell 1;have A:=j.ib.cell 1;simp only[lQ,lO,lS]at f1 A;obtain⟨_,_,g⟩:=j.j7 R H.2.2;have S:(y.2,y.1.aB)∈C++[(X.k,K)]++Bh F:=by simp only[mA];exact .inr (lP (BA H.2.2))
 have aH:=(f7.1 Q).1;rcases Bf (j.own.fg.own _ S)with⟨_,e⟩|⟨G,cl,N⟩
 . simp only[]at e;omega
 simp only[]at N;obtain⟨O,P⟩:=j.own.jd S N Q;have m:Ae (y.2=Z G y.1.aB cl/\y.1.aB[q]?=some z):=⟨N,Q⟩
 have W:Ae (∀u {X':VS} {K':List MC},AB u B X' C K' F->Ab u B 193 2 (Z G y.1.aB cl) y.1.aB (Ad MC.cells y.1.aB)):= λu X' K' hu=>by have:=hu.fg.own (y.2,y.1.aB) (by simp only[mA];exact .inr (lP (BA H.2.2)));simp only[]at this;rw[m.1]at this;exact this
 rw[N]at g;have aG:(q:Int)<(y.1.aB:Int):=oM;generalize y.1.aB.length=nl at g aG aF m W;rw[ae]at O;have inst:=Ax.some U;have J1:= λn:Ax U=>Ax.cell f1 n
 have J2:= λn:Ax U=>Ax.cell A n
 have J3:= λn:Ax U=>Ax.cell g n
 have J4:= λn:Ax U=>Ax.cell O n
 have J5:= λn:Ax U=>Ax.cell P n
 clear R S N Q aH ae;have e0:∀w,(binOp .eql 193 (An #[Ag Af 3,Ag .u32 z.word]) (An #[Ag Af 3,Ag .u32 0])).run Aq w=.ok (Ao (decide (3=(3:Int)/\z.word=0))) w:=Fh 3 z.word 3 0
 have e2:decide (3=(3:Int)/\z.word=0)=false:=by simp[aq]
 rw[e2]at e0;have HW:Ae (0<=z.word/\z.word<=4294967295/\1<=z.word):=⟨ai,aj,oM⟩
 clear e2 aq ai aj;go_wp2_with fail;refine AC kR kR ?_;repeat(go_big_quiet_step ((go_at_call 78;rename_i D;exact(FC 3 D.u).mono λe au h=>⟨h.1,⟨⟨au,Ar D.h lR h.2⟩,rfl⟩⟩)))
 refine wpQuiet_nil ?_;rintro au ⟨D,rfl⟩;have l:Ae (AG w D.u B p top t d c n X C K F I s E gf op q b c' X C F):=j.av D.h;clear J1 J2 J3 J4 J5 inst f1 A g O P e0;go_upto_region 3 with fail
 generalize D.u=V at l⊢;clear D j bU;have f1:=l.fb.cell 1;have A:=l.ib.cell 1;simp only[lQ,lO,lS]at f1 A;obtain⟨_,_,g⟩:=l.j7 ax H.2.2;rw[m.1]at g;obtain⟨O,P⟩:=l.own.jd (r:=(y.2,y.1.aB)) (by simp only[mA];exact .inr (lP (BA H.2.2))) m.1 m.2;obtain⟨aE,aA,aa⟩:=Dv (W.o V l.own);have lz:V.frozen? ⟨G,q*2+1,M⟩=false:=frozen_of_row V G (q*2+1) aA _ aa;have L:=As V;have aI:=Au L f1;have aO:=Au L A;have aJ:=Au L g;have aQ:=Au L P;have aR:V.drew.frozen? ⟨G,q*2+1,M⟩=false:=lz;have aM:IntKind.u32.wrap (z.word-1)=z.word-1:=IntWalk.u32_in _ (by have:=HW.o;omega);have E4:Ae (AG w (V.drew.setCell ⟨G,q*2+1,M⟩ (Ag .u32 (z.word-1))) B p top t d c n X C K (F.set top ({y.1 with aB:=y.1.aB.set q ⟨z.type,z.word-1⟩},y.2)) I s E gf op q b c' X C F):=(l.av L).jO H.2.2 m.1 m.2 (z.word-1);clear f1 A g O P aE aa lz;go_upto_region 3 with fail
 go_region_law (fail);all_goals
  go_wp2_with fail;exact nR (v:=Ap #[]) kR rfl E4.ia
end Go.Proofs.YtkgohaigebcgoaaGreatDoor
