import Derived.Test.YtkgohaigebcgoaaGreatDoorLo28
namespace Go.Proofs.YtkgohaigebcgoaaGreatDoor
open Go.ChangeShapes Go.WideShapes Go.ChangeAt Go.RowKit Go.Proofs.Tryz
set_option linter.unusedVariables false
open Go.Value renaming slice → Z,int → Ag,agg → An,bool → Ao,tuple → Ap
open Option renaming none → M
open Go renaming Value → J,World → Y,Calls → Ai
open Go.RowKit renaming Hid → Ae,Below → Ah
open Go.IntKind renaming i64 → Af
open Go.Obj renaming cells → Ak
open Go.Proofs.Tryz renaming prog → Aq
open Go.World renaming setCell → Aa,ownsRow → Ab
open List renaming flatMap → Ad
set_option maxHeartbeats 4000000
set_option maxRecDepth 100000
theorem SU(g:MC)(B i top:Nat)(t:Int)(d:Bool)(c n:Int)(X:VS)(C:List (J×List MC))(K:List MC)(F:List (MG×J))(k:J)(j l gf c3:Nat)(y:MG×J)(op a b c':Int)(w:Y)(V:B<= ↑w)(h:AB w B X C (K++[g]) F)(N:BF w i t d c n X k)(W: ↑F=top+1)(ai:top<=1048576)(O:F[top]?=some y)(L:X.f=Z gf (top+1) c3)(hK:K.length<=1048576)(aq:g.type=1)(P:g.word=0):
 Ai Aq 110 #[.pointer i,An #[.pointer (some ⟨j,l,M⟩),.pointer (some ⟨gf,top*4,M⟩)],An #[op,a,b,c']] w (Cd w B i t d c n C K (F.set top ({y.1 with at_:=c'},y.2)) k X C F):=by
 have r:Ae (AH w ((w.alloc (Ak #[.pointer (some ⟨j,l,M⟩),.pointer (some ⟨gf,top*4,M⟩)] 143)).alloc (Ak #[op,a,b,c'] 25)) B i top t d c n X C (K++[g]) F k j l gf op a b c' X C F):=AH.of j l gf op a b c' V h N;have H:Ae (AB w B X C (K++[g]) F/\ ↑F=top+1/\F[top]?=some y):=⟨h,W,O⟩
 clear h N O;go_enter func110,ntmps110;go_upto_region 1 with fail
 refine Av (λu=>Ae (AH w u B i top t d c n X C (K++[g]) F k j l gf op a b c' X C F)/\Ah w w u) ⟨r,Ar (Al _ _) lR (Al _ _)⟩ ?_
 rintro U ⟨E1,S⟩;clear r;have x:Ae (X.f=Z gf (top+1) c3):=L;have aj:=E1.hM;have T:∀w,(binOp .eql 193 (An #[Ag Af 1,Ag .u32 g.word]) (An #[Ag Af 1,Ag .u32 0])).run Aq w=.ok (Ao (decide (1=(1:Int)/\g.word=0))) w:=Fm 1 g.word 1 0
 have A:decide (1=(1:Int)/\g.word=0)=true:=by simp[P]
 rw[A]at T;clear L P A;go_wp2_with fail;refine(C6 B i t d c n X C K F k g U (jN E1.hB E1.eX.size) E1.own E1.mb hK).mono ?_;rintro e q ⟨rfl,p,D,E,G,I⟩;have s:Ae (AH w q B i top t d c n ⟨X.c,p,X.f⟩ C K F k j l gf op a b c' X C F):=E1.pop D E G I;clear D E G I E1 S;go_wp2_with fail;refine(FG 1 q).mono ?_;rintro e Q ⟨rfl,z⟩;have m:Ae (AH w Q B i top t d c n ⟨X.c,p,X.f⟩ C K F k j l gf op a b c' X C F):=s.av z;clear s z;clear q;go_upto_region 2 with fail
 have f1:=m.fb.cell 1;have i3:=m.ib.cell 3;simp only[i5,f8,i6]at f1 i3;obtain⟨aa,ae,_⟩:=m.fV x H.2.2;have R:Ae (AH w (Aa Q ⟨gf,top*4+1,M⟩ c') B i top t d c n ⟨X.c,p,X.f⟩ C K (F.set top ({y.1 with at_:=c'},y.2)) k j l gf op a b c' X C F):=m.jump x H.2.2 c';go_wp2_with fail;exact lD (v:=Ap #[]) kR rfl R.eY
theorem ST(g:MC)(B i top:Nat)(t:Int)(d:Bool)(c n:Int)(X:VS)(C:List (J×List MC))(K:List MC)(F:List (MG×J))(k:J)(j l gf c3:Nat)(y:MG×J)(op a b c':Int)(w:Y)(R:B<= ↑w)(h:AB w B X C (K++[g]) F)(G:BF w i t d c n X k)(S: ↑F=top+1)(aa:top<=1048576)(I:F[top]?=some y)(E:X.f=Z gf (top+1) c3)(T:K.length<=1048576)(ai:g.type=1)(L:¬g.word=0):
 Ai Aq 110 #[.pointer i,An #[.pointer (some ⟨j,l,M⟩),.pointer (some ⟨gf,top*4,M⟩)],An #[op,a,b,c']] w (Cd w B i t d c n C K F k X C F):=by
 have p:Ae (AH w ((w.alloc (Ak #[.pointer (some ⟨j,l,M⟩),.pointer (some ⟨gf,top*4,M⟩)] 143)).alloc (Ak #[op,a,b,c'] 25)) B i top t d c n X C (K++[g]) F k j l gf op a b c' X C F):=AH.of j l gf op a b c' R h G;have H:Ae (AB w B X C (K++[g]) F/\ ↑F=top+1/\F[top]?=some y):=⟨h,S,I⟩
 clear h G I;go_enter func110,ntmps110;go_upto_region 1 with fail
 refine Av (λu=>Ae (AH w u B i top t d c n X C (K++[g]) F k j l gf op a b c' X C F)/\Ah w w u) ⟨p,Ar (Al _ _) lR (Al _ _)⟩ ?_
 rintro U ⟨E1,P⟩;clear p;have W:Ae (X.f=Z gf (top+1) c3):=E;have ae:=E1.hM;have Q:∀w,(binOp .eql 193 (An #[Ag Af 1,Ag .u32 g.word]) (An #[Ag Af 1,Ag .u32 0])).run Aq w=.ok (Ao (decide (1=(1:Int)/\g.word=0))) w:=Fm 1 g.word 1 0
 have s:decide (1=(1:Int)/\g.word=0)=false:=by simp[L]
 rw[s]at Q;clear E L s;go_wp2_with fail;refine(C6 B i t d c n X C K F k g U (jN E1.hB E1.eX.size) E1.own E1.mb T).mono ?_;rintro e m ⟨rfl,N,x,z,A,D⟩;have q:Ae (AH w m B i top t d c n ⟨X.c,N,X.f⟩ C K F k j l gf op a b c' X C F):=E1.pop x z A D;clear x z A D E1 P;go_wp2_with fail;refine(FG 1 m).mono ?_;rintro e V ⟨rfl,r⟩;have O:Ae (AH w V B i top t d c n ⟨X.c,N,X.f⟩ C K F k j l gf op a b c' X C F):=q.av r;clear q r;clear m;go_wp2_with fail;exact lD (v:=Ap #[]) kR rfl O.eY
theorem AH.gQ{w u:Y}{B m top:Nat}{t:Int}{d:Bool}{c n:Int}{X:VS}{C:List (J×List MC)}{K:List MC}{F:List (MG×J)}{s:J}{r A gf:Nat}{op a b c':Int}{p:VS}{k:List (J×List MC)}{l:List (MG×J)}(h:AH w u B m top t d c n X C K F s r A gf op a b c' p k l){y:MG×J}{i v cl q:Nat}{D:MC}(g:F[top]?=some y)(e:y.2=Z i v cl)(L:y.1.a7[q]?=some D)(z:Int):AH w (Aa u ⟨i,q*2+1,M⟩ (Ag .u32 z)) B m top t d c n X C K (F.set top ({y.1 with a7:=y.1.a7.set q ⟨D.type,z⟩},y.2)) s r A gf op a b c' p k l:=by
 have N:F[top]?=some (y.1,Z i v cl):=by rw[g,<-e]
 obtain⟨x,E⟩:=h.own.gQ (jN h.hB h.eX.size) N L z;rw[<-e]at x;have f:=h.own.eT.own (y.2,y.1.a7) (by simp only[jL];exact .inr (hC (BE g)));simp only[]at f;rw[e]at f;have I:=CM f;subst I;obtain⟨P,O,G⟩:=Dz f;exact h.rows E x (.inr (.inr (.inr (.inr ⟨_,hC (BE g),by simp only[];rw[e];rfl⟩)))) G dC (λj H=>H.loc g)
theorem Zs(B g top:Nat)(t:Int)(d:Bool)(c n:Int)(X:VS)(C:List (J×List MC))(K:List MC)(F:List (MG×J))(l:J)(i j gf c3:Nat)(y:MG×J)(op a b c':Int)(w:Y)(hB:B<= ↑w)(h:AB w B X C K F)(S:BF w g t d c n X l)(hF: ↑F=top+1)(aF:top<=1048576)(hy:F[top]?=some y)(A:X.f=Z gf (top+1) c3)(q:Nat)(z:MC)(ha:a=q)(x:y.1.a7[q]?=some z)(aq:y.1.a7.length<=1048576)(T:z.type=3)(V:0<=z.word)(W:z.word<=4294967295)(aa:z.word=0):
 Ai Aq 111 #[.pointer g,An #[.pointer (some ⟨i,j,M⟩),.pointer (some ⟨gf,top*4,M⟩)],An #[op,a,b,c']] w (Cd w B g t d c n C K (F.set top ({y.1 with at_:=c'},y.2)) l X C F):=by
 subst ha;have I:Ae (AH w ((w.alloc (Ak #[.pointer (some ⟨i,j,M⟩),.pointer (some ⟨gf,top*4,M⟩)] 143)).alloc (Ak #[op,q,b,c'] 25)) B g top t d c n X C K F l i j gf op q b c' X C F):=AH.of i j gf op q b c' hB h S;have H:Ae (AB w B X C K F/\ ↑F=top+1/\F[top]?=some y):=⟨h,hF,hy⟩
 clear h S hy;go_enter func111,ntmps111;go_upto_region 1 with fail
 refine Av (λu=>Ae (AH w u B g top t d c n X C K F l i j gf op q b c' X C F)/\Ah w w u) ⟨I,Ar (Al _ _) lR (Al _ _)⟩ ?_
 rintro U ⟨E1,bU⟩;clear I;have N:Ae (X.f=Z gf (top+1) c3):=A;have f1:=E1.fb.cell 1;have E:=E1.ib.cell 1;simp only[i5,f8,i6]at f1 E;obtain⟨_,_,s⟩:=E1.fV A H.2.2;have D:(y.2,y.1.a7)∈C++[(X.k,K)]++Bm F:=by simp only[jL];exact .inr (hC (BE H.2.2))
 have ax:=(f7.1 x).1;rcases Bi (E1.own.eT.own _ D)with⟨_,e⟩|⟨R,cl,p⟩
 . simp only[]at e;omega
 simp only[]at p;obtain⟨G,ae⟩:=E1.own.fG D p x;have L:Ae (y.2=Z R y.1.a7 cl/\y.1.a7[q]?=some z):=⟨p,x⟩
 have aj:Ae (∀u {O:VS} {K':List MC},AB u B O C K' F->Ab u B 193 2 (Z R y.1.a7 cl) y.1.a7 (Ad MC.cells y.1.a7)):= λu O K' hu=>by have:=hu.eT.own (y.2,y.1.a7) (by simp only[jL];exact .inr (hC (BE H.2.2)));simp only[]at this;rw[L.1]at this;exact this
 rw[p]at s;have au:(q:Int)<(y.1.a7:Int):=oM;generalize y.1.a7.length=nl at s au aq L aj;rw[T]at G;have inst:=Ax.some U;have J1:= λn:Ax U=>Ax.cell f1 n
 have J2:= λn:Ax U=>Ax.cell E n
 have J3:= λn:Ax U=>Ax.cell s n
 have J4:= λn:Ax U=>Ax.cell G n
 have J5:= λn:Ax U=>Ax.cell ae n
 clear A D p x ax T;have P:∀w,(binOp .eql 193 (An #[Ag Af 3,Ag .u32 z.word]) (An #[Ag Af 3,Ag .u32 0])).run Aq w=.ok (Ao (decide (3=(3:Int)/\z.word=0))) w:=Fm 3 z.word 3 0
 have Q:decide (3=(3:Int)/\z.word=0)=true:=by simp[aa]
 rw[Q]at P;have HW:Ae (0<=z.word/\z.word<=4294967295):=⟨V,W⟩
 clear Q aa V W;go_wp2_with fail;refine AD kR kR ?_;repeat(go_big_quiet_step ((go_at_call 78;rename_i m;exact(FG 3 m.u).mono λe ai h=>⟨h.1,⟨⟨ai,Ar m.h lR h.2⟩,rfl⟩⟩)))
 refine wpQuiet_nil ?_;rintro ai ⟨m,rfl⟩;have r:Ae (AH w m.u B g top t d c n X C K F l i j gf op q b c' X C F):=E1.av m.h;clear J1 J2 J3 J4 J5 inst f1 E s G ae P;have f1:=r.fb.cell 1;have i3:=r.ib.cell 3;simp only[i5,f8,i6]at f1 i3;obtain⟨aA,aE,_⟩:=r.fV N H.2.2;have E9:Ae (AH w (m.u.setCell ⟨gf,top*4+1,M⟩ c') B g top t d c n X C K (F.set top ({y.1 with at_:=c'},y.2)) l i j gf op q b c' X C F):=r.jump N H.2.2 c';go_wp2_with fail;exact kA (v:=Ap #[]) kR rfl E9.eY
theorem Zr(B l top:Nat)(t:Int)(d:Bool)(c n:Int)(X:VS)(C:List (J×List MC))(K:List MC)(F:List (MG×J))(D:J)(m x gf c3:Nat)(y:MG×J)(op a b c':Int)(w:Y)(hB:B<= ↑w)(h:AB w B X C K F)(hm:BF w l t d c n X D)(hF: ↑F=top+1)(aK:top<=1048576)(hy:F[top]?=some y)(O:X.f=Z gf (top+1) c3)(q:Nat)(z:MC)(ha:a=q)(N:y.1.a7[q]?=some z)(aF:y.1.a7.length<=1048576)(ae:z.type=3)(ai:0<=z.word)(aj:z.word<=4294967295)(aq:¬z.word=0):
 Ai Aq 111 #[.pointer l,An #[.pointer (some ⟨m,x,M⟩),.pointer (some ⟨gf,top*4,M⟩)],An #[op,a,b,c']] w (Cd w B l t d c n C K (F.set top ({y.1 with a7:=y.1.a7.set q ⟨z.type,z.word-1⟩},y.2)) D X C F):=by
 subst ha;have Q:Ae (AH w ((w.alloc (Ak #[.pointer (some ⟨m,x,M⟩),.pointer (some ⟨gf,top*4,M⟩)] 143)).alloc (Ak #[op,q,b,c'] 25)) B l top t d c n X C K F D m x gf op q b c' X C F):=AH.of m x gf op q b c' hB h hm;have H:Ae (AB w B X C K F/\ ↑F=top+1/\F[top]?=some y):=⟨h,hF,hy⟩
 clear h hm hy;go_enter func111,ntmps111;go_upto_region 1 with fail
 refine Av (λu=>Ae (AH w u B l top t d c n X C K F D m x gf op q b c' X C F)/\Ah w w u) ⟨Q,Ar (Al _ _) lR (Al _ _)⟩ ?_
 rintro U ⟨E1,bU⟩;clear Q;have ax:Ae (X.f=Z gf (top+1) c3):=O;have f1:=E1.fb.cell 1;have p:=E1.ib.cell 1;simp only[i5,f8,i6]at f1 p;obtain⟨_,_,g⟩:=E1.fV O H.2.2;have P:(y.2,y.1.a7)∈C++[(X.k,K)]++Bm F:=by simp only[jL];exact .inr (hC (BE H.2.2))
 have aH:=(f7.1 N).1;rcases Bi (E1.own.eT.own _ P)with⟨_,e⟩|⟨A,cl,G⟩
 . simp only[]at e;omega
 simp only[]at G;obtain⟨I,L⟩:=E1.own.fG P G N;have j:Ae (y.2=Z A y.1.a7 cl/\y.1.a7[q]?=some z):=⟨G,N⟩
 have R:Ae (∀u {S:VS} {K':List MC},AB u B S C K' F->Ab u B 193 2 (Z A y.1.a7 cl) y.1.a7 (Ad MC.cells y.1.a7)):= λu S K' hu=>by have:=hu.eT.own (y.2,y.1.a7) (by simp only[jL];exact .inr (hC (BE H.2.2)));simp only[]at this;rw[j.1]at this;exact this
 rw[G]at g;have aG:(q:Int)<(y.1.a7:Int):=oM;generalize y.1.a7.length=nl at g aG aF j R;rw[ae]at I;have inst:=Ax.some U;have J1:= λn:Ax U=>Ax.cell f1 n
 have J2:= λn:Ax U=>Ax.cell p n
 have J3:= λn:Ax U=>Ax.cell g n
 have J4:= λn:Ax U=>Ax.cell I n
 have J5:= λn:Ax U=>Ax.cell L n
 clear O P G N aH ae;have T:∀w,(binOp .eql 193 (An #[Ag Af 3,Ag .u32 z.word]) (An #[Ag Af 3,Ag .u32 0])).run Aq w=.ok (Ao (decide (3=(3:Int)/\z.word=0))) w:=Fm 3 z.word 3 0
 have W:decide (3=(3:Int)/\z.word=0)=false:=by simp[aq]
 rw[W]at T;have HW:Ae (0<=z.word/\z.word<=4294967295/\1<=z.word):=⟨ai,aj,oM⟩
 clear W aq ai aj;go_wp2_with fail;refine AD kR kR ?_;repeat(go_big_quiet_step ((go_at_call 78;rename_i s;exact(FG 3 s.u).mono λe au h=>⟨h.1,⟨⟨au,Ar s.h lR h.2⟩,rfl⟩⟩)))
 refine wpQuiet_nil ?_;rintro au ⟨s,rfl⟩;have i:Ae (AH w s.u B l top t d c n X C K F D m x gf op q b c' X C F):=E1.av s.h;clear J1 J2 J3 J4 J5 inst f1 p g I L T;go_upto_region 3 with fail
 generalize s.u=V at i⊢;clear s E1 bU;have f1:=i.fb.cell 1;have p:=i.ib.cell 1;simp only[i5,f8,i6]at f1 p;obtain⟨_,_,g⟩:=i.fV ax H.2.2;rw[j.1]at g;obtain⟨I,L⟩:=i.own.fG (r:=(y.2,y.1.a7)) (by simp only[jL];exact .inr (hC (BE H.2.2))) j.1 j.2;obtain⟨aE,aA,aa⟩:=Dz (R.o V i.own);have lz:V.frozen? ⟨A,q*2+1,M⟩=false:=frozen_of_row V A (q*2+1) aA _ aa;have E:=At V;have aI:=Au E f1;have aO:=Au E p;have aJ:=Au E g;have aQ:=Au E L;have aR:V.drew.frozen? ⟨A,q*2+1,M⟩=false:=lz;have aM:IntKind.u32.wrap (z.word-1)=z.word-1:=IntWalk.u32_in _ (by have:=HW.o;omega);have E4:Ae (AH w (V.drew.setCell ⟨A,q*2+1,M⟩ (Ag .u32 (z.word-1))) B l top t d c n X C K (F.set top ({y.1 with a7:=y.1.a7.set q ⟨z.type,z.word-1⟩},y.2)) D m x gf op q b c' X C F):=(i.av E).gQ H.2.2 j.1 j.2 (z.word-1);clear f1 p g I L aE aa lz;go_upto_region 3 with fail
 go_region_law (fail);all_goals
  go_wp2_with fail;exact lD (v:=Ap #[]) kR rfl E4.eY
end Go.Proofs.YtkgohaigebcgoaaGreatDoor
