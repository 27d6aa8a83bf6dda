import Derived.Test.YtkgohaigebcgoaaGreatDoorLo28
namespace Go.Proofs.YtkgohaigebcgoaaGreatDoor
open Go.ChangeShapes Go.WideShapes Go.ChangeAt Go.RowKit Go.Proofs.Tryz
set_option linter.unusedVariables false
open Go.Value renaming slice → Z,int → Ag,agg → An,tuple → Ap
open Option renaming none → M
open Go renaming Value → J,World → Y,Calls → Ai
open Go.RowKit renaming Hid → Ae,Below → Ah
open Go.Obj renaming cells → Ak
open Go.Ending renaming returned → Am
open Go.Proofs.Tryz renaming prog → Aq
open Go.World renaming alloc → Ac
set_option maxHeartbeats 4000000
set_option maxRecDepth 100000
theorem Bu(R:Int)(l x:Nat)(g i:MC)(B m top:Nat)(t:Int)(d:Bool)(c n:Int)(X:VS)(C:List (J×List MC))(K:List MC)(F:List (MG×J))(s:J)(z E gf c3:Nat)(y:MG×J)(op a b c':Int)(w:Y)(hB:B<= ↑w)(h:AB w B X C (K++[g]++[i]) F)(hm:BF w m t d c n X s)(hF: ↑F=top+1)(aG:top<=1048576)(hy:F[top]?=some y)(aA:X.f=Z gf (top+1) c3)(hK:K.length<1048576)(aF:op=(l:Int))(aJ:l<30)(aj:BS[l*4+3]?=some (.func (.func x) #[] #[]))(ai:∀w,Ai Aq x #[g.type,Ag .u32 g.word,Ag .u32 i.word] w λe L=>e=Am (Ag .u32 R)/\L=w)(ae:∀args w,(callFunc x args).run Aq w=.ok (.enter x args) w):
 Ai Aq 103 #[.pointer m,An #[.pointer (some ⟨z,E,M⟩),.pointer (some ⟨gf,top*4,M⟩)],An #[op,a,b,c']] w (Cd w B m t d c n C (K++[⟨g.type,R⟩]) F s X C F):=by
 subst aF;have au:Ae (∀w,Ai Aq x #[g.type,Ag .u32 g.word,Ag .u32 i.word] w λe L=>e=Am (Ag .u32 R)/\L=w):=ai
 have aq:Ae (∀args w,(callFunc x args).run Aq w=.ok (.enter x args) w):=ae;have aa:Ae (BS[l*4+3]?=some (.func (.func x) #[] #[])):=aj;have aI:(l:Int)<30:=oM;clear ai ae aj;have E0:Ae (AH w ((w.alloc (Ak #[.pointer (some ⟨z,E,M⟩),.pointer (some ⟨gf,top*4,M⟩)] 143)).alloc (Ak #[l,a,b,c'] 25)) B m top t d c n X C (K++[g]++[i]) F s z E gf (l:Int) a b c' X C F):=AH.of z E gf (l:Int) a b c' hB h hm;have H:Ae (AB w B X C (K++[g]++[i]) F/\ ↑F=top+1/\F[top]?=some y):=⟨h,hF,hy⟩
 clear h hm hy;go_enter func103,ntmps103;go_upto_region 1 with fail
 refine Av (λu=>Ae (AH w u B m top t d c n X C (K++[g]++[i]) F s z E gf (l:Int) a b c' X C F)/\Ah w w u) ⟨E0,Ar (Al _ _) lR (Al _ _)⟩ ?_
 rintro U ⟨E1,bU⟩;clear E0;clear aA;have aH:=E1.hM;go_wp2_with fail;refine(C6 B m t d c n X C (K++[g]) F s i U (jN E1.hB E1.eX.size) E1.own E1.mb oT).mono ?_;rintro e u1 ⟨rfl,k',I,A,r,N⟩;have O:Ae (AH w u1 B m top t d c n ⟨X.c,k',X.f⟩ C (K++[g]) F s z E gf (l:Int) a b c' X C F):=E1.pop I A r N;clear I A r N E1 bU;go_wp2_with fail;refine(C6 B m t d c n ⟨X.c,k',X.f⟩ C K F s g u1 (jN O.hB O.eX.size) O.own O.mb oM).mono ?_;rintro e q ⟨rfl,D,I,A,r,N⟩;have T:Ae (AH w q B m top t d c n ⟨X.c,D,X.f⟩ C K F s z E gf (l:Int) a b c' X C F):=O.pop I A r N;have W:∀j,Dt ⟨X.c,D,X.f⟩ C F j->j<q.heap.size:= λj hj=>(A.ltOf hj).2
 clear I A r N O;clear u1;have aE:(w:Nat)+1<q.heap.size:=T.ib.lt;have V:Ae (AH w (Ac (Ac q (Ak #[i.type,Ag .u32 i.word] 193)) (Ak #[g.type,Ag .u32 g.word] 193)) B m top t d c n ⟨X.c,D,X.f⟩ C K F s z E gf (l:Int) a b c' X C F/\Ay (Ac (Ac q (Ak #[i.type,Ag .u32 i.word] 193)) (Ak #[g.type,Ag .u32 g.word] 193)) q #[i.type,Ag .u32 i.word] 193/\Ay (Ac (Ac q (Ak #[i.type,Ag .u32 i.word] 193)) (Ak #[g.type,Ag .u32 g.word] 193)) ((q:Nat)+1) #[g.type,Ag .u32 g.word] 193):=by have b1:=Al q (Ak #[i.type,Ag .u32 i.word] 193);have k1:=Ay.new q #[i.type,Ag .u32 i.word] 193;have D:=Ay.new (Ac q (Ak #[i.type,Ag .u32 i.word] 193)) #[g.type,Ag .u32 g.word] 193;rw[l8]at D;exact⟨(T.av b1).av (Al _ _),k1.av (Al _ _),D⟩
 go_upto_region 2 with fail
 generalize q.heap.size=p at V W aE⊢;refine Av (λu=>Ae (AH w u B m top t d c n ⟨X.c,D,X.f⟩ C K F s z E gf (l:Int) a b c' X C F/\Ay u p #[i.type,Ag .u32 i.word] 193/\Ay u (p+1) #[g.type,Ag .u32 g.word] 193)) V ?_
 rintro P E4;clear V T;clear q;have ax:Ae (∀j,Dt ⟨X.c,D,X.f⟩ C F j->j<p):=W;clear W;have x0:=E4.2.2.cell 0;have x1:=E4.2.2.cell 1;have y1:=E4.2.1.cell 1;have i0:=E4.1.ib.cell 0;simp only[i5,f8,i6]at x0 x1 y1 i0;have rf:=E4.1.mb.row (l*4+3) _ aa;rw[<-Nat.add_assoc]at rf;have G:=At P;have KD:P.drew ⟨p+1,0,M⟩=some ↑g.type/\P.drew ⟨p+1,1,M⟩=some (Ag .u32 g.word)/\P.drew ⟨p,1,M⟩=some (Ag .u32 i.word)/\P.drew ⟨(w:Nat)+1,0,M⟩=some ↑l/\P.drew ⟨m,8+l*4+3,M⟩=some (.func (.func x) #[] #[]):=⟨Au G x0,Au G x1,Au G y1,Au G i0,Au G rf⟩
 clear x0 x1 y1 i0 rf;have S:∀j,(j=w.heap.size+1\/j=p\/j=p+1)->¬(j=m\/(⟨X.c,D,X.f⟩:VS).k.ownBlock=some j):= λj hj e=>by
  rcases e with e|e
  . omega
  have I:=ax.o j (.inr (.inl e));have A:=E4.1.fJ j (.inr (.inl e));omega
 go_upto_region 2 with fail
 go_region_held_law (λL=>L.cell? ⟨p+1,0,M⟩=some ↑g.type/\L.cell? ⟨p+1,1,M⟩=some (Ag .u32 g.word)/\L.cell? ⟨p,1,M⟩=some (Ag .u32 i.word)/\L.cell? ⟨(w:Nat)+1,0,M⟩=some ↑l/\L.cell? ⟨m,8+l*4+3,M⟩=some (.func (.func x) #[] #[])) (first|exact KD|exact KW|go_keep) (first
  |(go_simp;go_at_call 150;refine(DA B m t d c n ⟨X.c,D,X.f⟩ C K F s ⟨g.type,R⟩ _ (jN E4.1.hB (E4.1.av G).eX.size) (E4.1.av G).own (E4.1.av G).mb oM).mono ?_;rintro e Q ⟨rfl,k9,I,A,r,N⟩;have E5:Ae (AH w Q B m top t d c n ⟨X.c,k9,X.f⟩ C (K++[⟨g.type,R⟩]) F s z E gf (l:Int) a b c' X C F):=(E4.1.av G).push I A r N;have KW:Q ⟨p+1,0,M⟩=some ↑g.type/\Q ⟨p+1,1,M⟩=some (Ag .u32 g.word)/\Q ⟨p,1,M⟩=some (Ag .u32 i.word)/\Q ⟨(w:Nat)+1,0,M⟩=some ↑l/\Q ⟨m,8+l*4+3,M⟩=some (.func (.func x) #[] #[]):=⟨r.cell KD.1 (S _ sP),r.cell KD.2.1 (S _ sP),r.cell KD.2.2.1 (S _ sP),r.cell KD.2.2.2.1 (S _ sP),(by have:=E5.mb.row (l*4+3) _ aa;rw[<-Nat.add_assoc]at this;exact this)⟩;clear I A r N)
  |(go_simp;rw[aq];refine(au.o _).mono ?_;rintro e u6 ⟨rfl,rfl⟩))
 all_goals
  go_wp2_with fail;exact lD (v:=Ap #[]) kR rfl E5.eY
theorem KI(R:Int)(l x:Nat)(g i:MC)(B m top:Nat)(t:Int)(d:Bool)(c n:Int)(X:VS)(C:List (J×List MC))(K:List MC)(F:List (MG×J))(s:J)(z E gf c3:Nat)(y:MG×J)(op a b c':Int)(w:Y)(hB:B<= ↑w)(h:AB w B X C (K++[g]++[i]) F)(hm:BF w m t d c n X s)(hF: ↑F=top+1)(aG:top<=1048576)(hy:F[top]?=some y)(aA:X.f=Z gf (top+1) c3)(hK:K.length<1048576)(aF:op=(l:Int))(aJ:l<30)(aj:BS[l*4+3]?=some (.func (.func x) #[] #[]))(ai:∀w,Ai Aq x #[g.type,Ag .u32 g.word,Ag .u32 i.word] w λe L=>e=Am (Ag .u32 R)/\L=w)(ae:∀args w,(callFunc x args).run Aq w=.ok (.enter x args) w):
 Ai Aq 105 #[.pointer m,An #[.pointer (some ⟨z,E,M⟩),.pointer (some ⟨gf,top*4,M⟩)],An #[op,a,b,c']] w (Cd w B m t d c n C (K++[⟨1,R⟩]) F s X C F):=by
 subst aF;have au:Ae (∀w,Ai Aq x #[g.type,Ag .u32 g.word,Ag .u32 i.word] w λe L=>e=Am (Ag .u32 R)/\L=w):=ai
 have aq:Ae (∀args w,(callFunc x args).run Aq w=.ok (.enter x args) w):=ae;have aa:Ae (BS[l*4+3]?=some (.func (.func x) #[] #[])):=aj;have aI:(l:Int)<30:=oM;clear ai ae aj;have E0:Ae (AH w ((w.alloc (Ak #[.pointer (some ⟨z,E,M⟩),.pointer (some ⟨gf,top*4,M⟩)] 143)).alloc (Ak #[l,a,b,c'] 25)) B m top t d c n X C (K++[g]++[i]) F s z E gf (l:Int) a b c' X C F):=AH.of z E gf (l:Int) a b c' hB h hm;have H:Ae (AB w B X C (K++[g]++[i]) F/\ ↑F=top+1/\F[top]?=some y):=⟨h,hF,hy⟩
 clear h hm hy;go_enter func105,ntmps105;go_upto_region 1 with fail
 refine Av (λu=>Ae (AH w u B m top t d c n X C (K++[g]++[i]) F s z E gf (l:Int) a b c' X C F)/\Ah w w u) ⟨E0,Ar (Al _ _) lR (Al _ _)⟩ ?_
 rintro U ⟨E1,bU⟩;clear E0;clear aA;have aH:=E1.hM;go_wp2_with fail;refine(C6 B m t d c n X C (K++[g]) F s i U (jN E1.hB E1.eX.size) E1.own E1.mb oT).mono ?_;rintro e u1 ⟨rfl,k',I,A,r,N⟩;have O:Ae (AH w u1 B m top t d c n ⟨X.c,k',X.f⟩ C (K++[g]) F s z E gf (l:Int) a b c' X C F):=E1.pop I A r N;clear I A r N E1 bU;go_wp2_with fail;refine(C6 B m t d c n ⟨X.c,k',X.f⟩ C K F s g u1 (jN O.hB O.eX.size) O.own O.mb oM).mono ?_;rintro e q ⟨rfl,D,I,A,r,N⟩;have T:Ae (AH w q B m top t d c n ⟨X.c,D,X.f⟩ C K F s z E gf (l:Int) a b c' X C F):=O.pop I A r N;have W:∀j,Dt ⟨X.c,D,X.f⟩ C F j->j<q.heap.size:= λj hj=>(A.ltOf hj).2
 clear I A r N O;clear u1;have aE:(w:Nat)+1<q.heap.size:=T.ib.lt;have V:Ae (AH w (Ac (Ac q (Ak #[i.type,Ag .u32 i.word] 193)) (Ak #[g.type,Ag .u32 g.word] 193)) B m top t d c n ⟨X.c,D,X.f⟩ C K F s z E gf (l:Int) a b c' X C F/\Ay (Ac (Ac q (Ak #[i.type,Ag .u32 i.word] 193)) (Ak #[g.type,Ag .u32 g.word] 193)) q #[i.type,Ag .u32 i.word] 193/\Ay (Ac (Ac q (Ak #[i.type,Ag .u32 i.word] 193)) (Ak #[g.type,Ag .u32 g.word] 193)) ((q:Nat)+1) #[g.type,Ag .u32 g.word] 193):=by have b1:=Al q (Ak #[i.type,Ag .u32 i.word] 193);have k1:=Ay.new q #[i.type,Ag .u32 i.word] 193;have D:=Ay.new (Ac q (Ak #[i.type,Ag .u32 i.word] 193)) #[g.type,Ag .u32 g.word] 193;rw[l8]at D;exact⟨(T.av b1).av (Al _ _),k1.av (Al _ _),D⟩
 go_upto_region 2 with fail
 generalize q.heap.size=p at V W aE⊢;refine Av (λu=>Ae (AH w u B m top t d c n ⟨X.c,D,X.f⟩ C K F s z E gf (l:Int) a b c' X C F/\Ay u p #[i.type,Ag .u32 i.word] 193/\Ay u (p+1) #[g.type,Ag .u32 g.word] 193)) V ?_
 rintro P E4;clear V T;clear q;have ax:Ae (∀j,Dt ⟨X.c,D,X.f⟩ C F j->j<p):=W;clear W;have x0:=E4.2.2.cell 0;have x1:=E4.2.2.cell 1;have y1:=E4.2.1.cell 1;have i0:=E4.1.ib.cell 0;simp only[i5,f8,i6]at x0 x1 y1 i0;have rf:=E4.1.mb.row (l*4+3) _ aa;rw[<-Nat.add_assoc]at rf;have G:=At P;have KD:P.drew ⟨p+1,0,M⟩=some ↑g.type/\P.drew ⟨p+1,1,M⟩=some (Ag .u32 g.word)/\P.drew ⟨p,1,M⟩=some (Ag .u32 i.word)/\P.drew ⟨(w:Nat)+1,0,M⟩=some ↑l/\P.drew ⟨m,8+l*4+3,M⟩=some (.func (.func x) #[] #[]):=⟨Au G x0,Au G x1,Au G y1,Au G i0,Au G rf⟩
 clear x0 x1 y1 i0 rf;have S:∀j,(j=w.heap.size+1\/j=p\/j=p+1)->¬(j=m\/(⟨X.c,D,X.f⟩:VS).k.ownBlock=some j):= λj hj e=>by
  rcases e with e|e
  . omega
  have I:=ax.o j (.inr (.inl e));have A:=E4.1.fJ j (.inr (.inl e));omega
 go_upto_region 2 with fail
 go_region_held_law (λL=>L.cell? ⟨p+1,0,M⟩=some ↑g.type/\L.cell? ⟨p+1,1,M⟩=some (Ag .u32 g.word)/\L.cell? ⟨p,1,M⟩=some (Ag .u32 i.word)/\L.cell? ⟨(w:Nat)+1,0,M⟩=some ↑l/\L.cell? ⟨m,8+l*4+3,M⟩=some (.func (.func x) #[] #[])) (first|exact KD|exact KW|go_keep) (first
  |(go_simp;go_at_call 150;refine(DA B m t d c n ⟨X.c,D,X.f⟩ C K F s ⟨1,R⟩ _ (jN E4.1.hB (E4.1.av G).eX.size) (E4.1.av G).own (E4.1.av G).mb oM).mono ?_;rintro e Q ⟨rfl,k9,I,A,r,N⟩;have E5:Ae (AH w Q B m top t d c n ⟨X.c,k9,X.f⟩ C (K++[⟨1,R⟩]) F s z E gf (l:Int) a b c' X C F):=(E4.1.av G).push I A r N;have KW:Q ⟨p+1,0,M⟩=some ↑g.type/\Q ⟨p+1,1,M⟩=some (Ag .u32 g.word)/\Q ⟨p,1,M⟩=some (Ag .u32 i.word)/\Q ⟨(w:Nat)+1,0,M⟩=some ↑l/\Q ⟨m,8+l*4+3,M⟩=some (.func (.func x) #[] #[]):=⟨r.cell KD.1 (S _ sP),r.cell KD.2.1 (S _ sP),r.cell KD.2.2.1 (S _ sP),r.cell KD.2.2.2.1 (S _ sP),(by have:=E5.mb.row (l*4+3) _ aa;rw[<-Nat.add_assoc]at this;exact this)⟩;clear I A r N)
  |(go_simp;rw[aq];refine(au.o _).mono ?_;rintro e u6 ⟨rfl,rfl⟩))
 all_goals
  go_wp2_with fail;exact lD (v:=Ap #[]) kR rfl E5.eY
theorem RR(N:Int)(i m:Nat)(g:MC)(B l top:Nat)(t:Int)(d:Bool)(c n:Int)(X:VS)(C:List (J×List MC))(K:List MC)(F:List (MG×J))(q:J)(r s gf c3:Nat)(y:MG×J)(op a b c':Int)(w:Y)(hB:B<= ↑w)(h:AB w B X C (K++[g]) F)(hm:BF w l t d c n X q)(hF: ↑F=top+1)(aG:top<=1048576)(hy:F[top]?=some y)(aA:X.f=Z gf (top+1) c3)(hK:K.length<1048576)(aF:op=(i:Int))(aJ:i<30)(aj:BS[i*4+3]?=some (.func (.func m) #[] #[]))(ai:∀w,Ai Aq m #[g.type,Ag .u32 g.word,Ag .u32 0] w λe D=>e=Am (Ag .u32 N)/\D=w)(ae:∀args w,(callFunc m args).run Aq w=.ok (.enter m args) w):
 Ai Aq 104 #[.pointer l,An #[.pointer (some ⟨r,s,M⟩),.pointer (some ⟨gf,top*4,M⟩)],An #[op,a,b,c']] w (Cd w B l t d c n C (K++[⟨g.type,N⟩]) F q X C F):=by
 subst aF;have au:Ae (∀w,Ai Aq m #[g.type,Ag .u32 g.word,Ag .u32 0] w λe D=>e=Am (Ag .u32 N)/\D=w):=ai
 have aq:Ae (∀args w,(callFunc m args).run Aq w=.ok (.enter m args) w):=ae;have aa:Ae (BS[i*4+3]?=some (.func (.func m) #[] #[])):=aj;have aI:(i:Int)<30:=oM;clear ai ae aj;have E0:Ae (AH w ((w.alloc (Ak #[.pointer (some ⟨r,s,M⟩),.pointer (some ⟨gf,top*4,M⟩)] 143)).alloc (Ak #[i,a,b,c'] 25)) B l top t d c n X C (K++[g]) F q r s gf (i:Int) a b c' X C F):=AH.of r s gf (i:Int) a b c' hB h hm;have H:Ae (AB w B X C (K++[g]) F/\ ↑F=top+1/\F[top]?=some y):=⟨h,hF,hy⟩
 clear h hm hy;go_enter func104,ntmps104;go_upto_region 1 with fail
 refine Av (λu=>Ae (AH w u B l top t d c n X C (K++[g]) F q r s gf (i:Int) a b c' X C F)/\Ah w w u) ⟨E0,Ar (Al _ _) lR (Al _ _)⟩ ?_
 rintro U ⟨E1,bU⟩;clear E0;clear aA;have aH:=E1.hM;go_wp2_with fail;refine(C6 B l t d c n X C K F q g U (jN E1.hB E1.eX.size) E1.own E1.mb oM).mono ?_;rintro e A ⟨rfl,G,I,E,z,O⟩;have Q:Ae (AH w A B l top t d c n ⟨X.c,G,X.f⟩ C K F q r s gf (i:Int) a b c' X C F):=E1.pop I E z O;have S:∀j,Dt ⟨X.c,G,X.f⟩ C F j->j<A.heap.size:= λj hj=>(E.ltOf hj).2
 clear I E z O E1 bU;have aE:(w:Nat)+1<A.heap.size:=Q.ib.lt;have R:Ae (AH w (Ac A (Ak #[g.type,Ag .u32 g.word] 193)) B l top t d c n ⟨X.c,G,X.f⟩ C K F q r s gf (i:Int) a b c' X C F/\Ay (Ac A (Ak #[g.type,Ag .u32 g.word] 193)) A #[g.type,Ag .u32 g.word] 193):=⟨Q.av (Al _ _),Ay.new _ _ _⟩
 go_upto_region 2 with fail
 generalize A.heap.size=p at R S aE⊢;refine Av (λu=>Ae (AH w u B l top t d c n ⟨X.c,G,X.f⟩ C K F q r s gf (i:Int) a b c' X C F/\Ay u p #[g.type,Ag .u32 g.word] 193)) R ?_
 rintro L E4;clear R Q;clear A;have ax:Ae (∀j,Dt ⟨X.c,G,X.f⟩ C F j->j<p):=S;clear S;have W:=E4.2.cell 0;have x1:=E4.2.cell 1;have i0:=E4.1.ib.cell 0;simp only[i5,f8,i6]at W x1 i0;have V:=E4.1.mb.row (i*4+3) _ aa;rw[<-Nat.add_assoc]at V;have x:=At L;have KD:L.drew p=some ↑g.type/\L.drew ⟨p,1,M⟩=some (Ag .u32 g.word)/\L.drew ⟨(w:Nat)+1,0,M⟩=some ↑i/\L.drew ⟨l,8+i*4+3,M⟩=some (.func (.func m) #[] #[]):=⟨Au x W,Au x x1,Au x i0,Au x V⟩
 clear W x1 i0 V;have T:∀j,(j=w.heap.size+1\/j=p\/j=p+1)->¬(j=l\/(⟨X.c,G,X.f⟩:VS).k.ownBlock=some j):= λj hj e=>by
  rcases e with e|e
  . omega
  have I:=ax.o j (.inr (.inl e));have E:=E4.1.fJ j (.inr (.inl e));omega
 go_upto_region 2 with fail
 go_region_held_law (λD=>D.cell? p=some ↑g.type/\D.cell? ⟨p,1,M⟩=some (Ag .u32 g.word)/\D.cell? ⟨(w:Nat)+1,0,M⟩=some ↑i/\D.cell? ⟨l,8+i*4+3,M⟩=some (.func (.func m) #[] #[])) (first|exact KD|exact KW|go_keep) (first
  |(go_simp;go_at_call 150;refine(DA B l t d c n ⟨X.c,G,X.f⟩ C K F q ⟨g.type,N⟩ _ (jN E4.1.hB (E4.1.av x).eX.size) (E4.1.av x).own (E4.1.av x).mb oM).mono ?_;rintro e P ⟨rfl,k9,I,E,z,O⟩;have E5:Ae (AH w P B l top t d c n ⟨X.c,k9,X.f⟩ C (K++[⟨g.type,N⟩]) F q r s gf (i:Int) a b c' X C F):=(E4.1.av x).push I E z O;have KW:P p=some ↑g.type/\P ⟨p,1,M⟩=some (Ag .u32 g.word)/\P ⟨(w:Nat)+1,0,M⟩=some ↑i/\P ⟨l,8+i*4+3,M⟩=some (.func (.func m) #[] #[]):=⟨z.cell KD.1 (T _ sP),z.cell KD.2.1 (T _ sP),z.cell KD.2.2.1 (T _ sP),(by have:=E5.mb.row (i*4+3) _ aa;rw[<-Nat.add_assoc]at this;exact this)⟩;clear I E z O)
  |(go_simp;rw[aq];refine(au.o _).mono ?_;rintro e u6 ⟨rfl,rfl⟩))
 all_goals
  go_wp2_with fail;exact lD (v:=Ap #[]) kR rfl E5.eY
end Go.Proofs.YtkgohaigebcgoaaGreatDoor
