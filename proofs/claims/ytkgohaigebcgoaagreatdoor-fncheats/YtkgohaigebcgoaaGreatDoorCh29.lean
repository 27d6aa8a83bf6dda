import Derived.Test.YtkgohaigebcgoaaGreatDoorCh28
namespace Go.Proofs.YtkgohaigebcgoaaGreatDoor
open Go.ChangeShapes Go.WideShapes Go.ChangeAt Go.RowKit Go.Proofs.Tryz
set_option linter.unusedVariables false
open Go.Value renaming slice → Z,int → Ag,agg → An,tuple → Ap
open Option renaming none → M
open Go renaming Value → J,World → Y,Calls → Ai
open Go.RowKit renaming Hid → Ae,Below → Ah
open Go.Obj renaming cells → Ak
open Go.Ending renaming returned → Am
open Go.Proofs.Tryz renaming prog → Aq
open Go.World renaming alloc → Ac
set_option maxHeartbeats 4000000
set_option maxRecDepth 100000
theorem Bs(V:Int)(m A:Nat)(g l:MC)(B p top:Nat)(t:Int)(d:Bool)(c n:Int)(X:VS)(C:List (J×List MC))(K:List MC)(F:List (MG×J))(z:J)(D I gf c3:Nat)(y:MG×J)(op a b c':Int)(w:Y)(hB:B<= ↑w)(h:AB w B X C (K++[g]++[l]) F)(hm:BC w p t d c n X z)(hF: ↑F=top+1)(aH:top<=1048576)(hy:F[top]?=some y)(aE:X.f=Z gf (top+1) c3)(hK:K.length<1048576)(aG:op=(m:Int))(aK:m<30)(aq:BP[m*4+3]?=some (.func (.func A) #[] #[]))(aj:∀w,Ai Aq A #[g.type,Ag .u32 g.word,Ag .u32 l.word] w λe O=>e=Am (Ag .u32 V)/\O=w)(ai:∀args w,(callFunc A args).run Aq w=.ok (.enter A args) w):
 Ai Aq 103 #[.pointer p,An #[.pointer (some ⟨D,I,M⟩),.pointer (some ⟨gf,top*4,M⟩)],An #[op,a,b,c']] w (B4 w B p t d c n C (K++[⟨g.type,V⟩]) F z X C F):=by
 subst aG;have ax:Ae (∀w,Ai Aq A #[g.type,Ag .u32 g.word,Ag .u32 l.word] w λe O=>e=Am (Ag .u32 V)/\O=w):=aj
 have au:Ae (∀args w,(callFunc A args).run Aq w=.ok (.enter A args) w):=ai;have ae:Ae (BP[m*4+3]?=some (.func (.func A) #[] #[])):=aq;have aJ:(m:Int)<30:=oM;clear aj ai aq;have E0:Ae (AG w ((w.alloc (Ak #[.pointer (some ⟨D,I,M⟩),.pointer (some ⟨gf,top*4,M⟩)] 143)).alloc (Ak #[m,a,b,c'] 25)) B p top t d c n X C (K++[g]++[l]) F z D I gf (m:Int) a b c' X C F):=AG.of D I gf (m:Int) a b c' hB h hm;have H:Ae (AB w B X C (K++[g]++[l]) F/\ ↑F=top+1/\F[top]?=some y):=⟨h,hF,hy⟩
 clear h hm hy;go_enter func103,ntmps103;go_upto_region 1 with fail
 refine Av (λu=>Ae (AG w u B p top t d c n X C (K++[g]++[l]) F z D I gf (m:Int) a b c' X C F)/\Ah w w u) ⟨E0,Ar (Al _ _) lR (Al _ _)⟩ ?_
 rintro U ⟨Q,bU⟩;clear E0;clear aE;have aI:=Q.hM;go_wp2_with fail;refine(CZ B p t d c n X C (K++[g]) F z l U (mC Q.hB Q.gv.size) Q.own Q.mb oT).mono ?_;rintro e u1 ⟨rfl,k',N,E,s,P⟩;have R:Ae (AG w u1 B p top t d c n ⟨X.c,k',X.f⟩ C (K++[g]) F z D I gf (m:Int) a b c' X C F):=Q.pop N E s P;clear N E s P Q bU;go_wp2_with fail;refine(CZ B p t d c n ⟨X.c,k',X.f⟩ C K F z g u1 (mC R.hB R.gv.size) R.own R.mb oM).mono ?_;rintro e r ⟨rfl,G,N,E,s,P⟩;have E3:Ae (AG w r B p top t d c n ⟨X.c,G,X.f⟩ C K F z D I gf (m:Int) a b c' X C F):=R.pop N E s P;have aa:∀j,Dm ⟨X.c,G,X.f⟩ C F j->j<r.heap.size:= λj hj=>(E.ltOf hj).2
 clear N E s P R;clear u1;have aF:(w:Nat)+1<r.heap.size:=E3.ib.lt;have EN:Ae (AG w (Ac (Ac r (Ak #[l.type,Ag .u32 l.word] 193)) (Ak #[g.type,Ag .u32 g.word] 193)) B p top t d c n ⟨X.c,G,X.f⟩ C K F z D I gf (m:Int) a b c' X C F/\Ay (Ac (Ac r (Ak #[l.type,Ag .u32 l.word] 193)) (Ak #[g.type,Ag .u32 g.word] 193)) r #[l.type,Ag .u32 l.word] 193/\Ay (Ac (Ac r (Ak #[l.type,Ag .u32 l.word] 193)) (Ak #[g.type,Ag .u32 g.word] 193)) ((r:Nat)+1) #[g.type,Ag .u32 g.word] 193):=by have b1:=Al r (Ak #[l.type,Ag .u32 l.word] 193);have k1:=Ay.new r #[l.type,Ag .u32 l.word] 193;have G:=Ay.new (Ac r (Ak #[l.type,Ag .u32 l.word] 193)) #[g.type,Ag .u32 g.word] 193;rw[oQ]at G;exact⟨(E3.av b1).av (Al _ _),k1.av (Al _ _),G⟩
 go_upto_region 2 with fail
 generalize r.heap.size=q at EN aa aF⊢;refine Av (λu=>Ae (AG w u B p top t d c n ⟨X.c,G,X.f⟩ C K F z D I gf (m:Int) a b c' X C F/\Ay u q #[l.type,Ag .u32 l.word] 193/\Ay u (q+1) #[g.type,Ag .u32 g.word] 193)) EN ?_
 rintro S E4;clear EN E3;clear r;have aA:Ae (∀j,Dm ⟨X.c,G,X.f⟩ C F j->j<q):=aa;clear aa;have x0:=E4.2.2.cell 0;have x1:=E4.2.2.cell 1;have y1:=E4.2.1.cell 1;have i0:=E4.1.ib.cell 0;simp only[lQ,lO,lS]at x0 x1 y1 i0;have rf:=E4.1.mb.row (m*4+3) _ ae;rw[<-Nat.add_assoc]at rf;have L:=As S;have KD:S.drew ⟨q+1,0,M⟩=some ↑g.type/\S.drew ⟨q+1,1,M⟩=some (Ag .u32 g.word)/\S.drew ⟨q,1,M⟩=some (Ag .u32 l.word)/\S.drew ⟨(w:Nat)+1,0,M⟩=some ↑m/\S.drew ⟨p,8+m*4+3,M⟩=some (.func (.func A) #[] #[]):=⟨Au L x0,Au L x1,Au L y1,Au L i0,Au L rf⟩
 clear x0 x1 y1 i0 rf;have W:∀j,(j=w.heap.size+1\/j=q\/j=q+1)->¬(j=p\/(⟨X.c,G,X.f⟩:VS).k.ownBlock=some j):= λj hj e=>by
  rcases e with e|e
  . omega
  have N:=aA.o j (.inr (.inl e));have E:=E4.1.ji j (.inr (.inl e));omega
 go_upto_region 2 with fail
 go_region_held_law (λO=>O.cell? ⟨q+1,0,M⟩=some ↑g.type/\O.cell? ⟨q+1,1,M⟩=some (Ag .u32 g.word)/\O.cell? ⟨q,1,M⟩=some (Ag .u32 l.word)/\O.cell? ⟨(w:Nat)+1,0,M⟩=some ↑m/\O.cell? ⟨p,8+m*4+3,M⟩=some (.func (.func A) #[] #[])) (first|exact KD|exact KW|go_keep) (first
  |(go_simp;go_at_call 150;refine(Dw B p t d c n ⟨X.c,G,X.f⟩ C K F z ⟨g.type,V⟩ _ (mC E4.1.hB (E4.1.av L).gv.size) (E4.1.av L).own (E4.1.av L).mb oM).mono ?_;rintro e T ⟨rfl,k9,N,E,s,P⟩;have E5:Ae (AG w T B p top t d c n ⟨X.c,k9,X.f⟩ C (K++[⟨g.type,V⟩]) F z D I gf (m:Int) a b c' X C F):=(E4.1.av L).push N E s P;have KW:T ⟨q+1,0,M⟩=some ↑g.type/\T ⟨q+1,1,M⟩=some (Ag .u32 g.word)/\T ⟨q,1,M⟩=some (Ag .u32 l.word)/\T ⟨(w:Nat)+1,0,M⟩=some ↑m/\T ⟨p,8+m*4+3,M⟩=some (.func (.func A) #[] #[]):=⟨s.cell KD.1 (W _ sP),s.cell KD.2.1 (W _ sP),s.cell KD.2.2.1 (W _ sP),s.cell KD.2.2.2.1 (W _ sP),(by have:=E5.mb.row (m*4+3) _ ae;rw[<-Nat.add_assoc]at this;exact this)⟩;clear N E s P)
  |(go_simp;rw[au];refine(ax.o _).mono ?_;rintro e u6 ⟨rfl,rfl⟩))
 all_goals
  go_wp2_with fail;exact nR (v:=Ap #[]) kR rfl E5.ia
theorem Kw(V:Int)(m A:Nat)(g l:MC)(B p top:Nat)(t:Int)(d:Bool)(c n:Int)(X:VS)(C:List (J×List MC))(K:List MC)(F:List (MG×J))(z:J)(D I gf c3:Nat)(y:MG×J)(op a b c':Int)(w:Y)(hB:B<= ↑w)(h:AB w B X C (K++[g]++[l]) F)(hm:BC w p t d c n X z)(hF: ↑F=top+1)(aH:top<=1048576)(hy:F[top]?=some y)(aE:X.f=Z gf (top+1) c3)(hK:K.length<1048576)(aG:op=(m:Int))(aK:m<30)(aq:BP[m*4+3]?=some (.func (.func A) #[] #[]))(aj:∀w,Ai Aq A #[g.type,Ag .u32 g.word,Ag .u32 l.word] w λe O=>e=Am (Ag .u32 V)/\O=w)(ai:∀args w,(callFunc A args).run Aq w=.ok (.enter A args) w):
 Ai Aq 105 #[.pointer p,An #[.pointer (some ⟨D,I,M⟩),.pointer (some ⟨gf,top*4,M⟩)],An #[op,a,b,c']] w (B4 w B p t d c n C (K++[⟨1,V⟩]) F z X C F):=by
 subst aG;have ax:Ae (∀w,Ai Aq A #[g.type,Ag .u32 g.word,Ag .u32 l.word] w λe O=>e=Am (Ag .u32 V)/\O=w):=aj
 have au:Ae (∀args w,(callFunc A args).run Aq w=.ok (.enter A args) w):=ai;have ae:Ae (BP[m*4+3]?=some (.func (.func A) #[] #[])):=aq;have aJ:(m:Int)<30:=oM;clear aj ai aq;have E0:Ae (AG w ((w.alloc (Ak #[.pointer (some ⟨D,I,M⟩),.pointer (some ⟨gf,top*4,M⟩)] 143)).alloc (Ak #[m,a,b,c'] 25)) B p top t d c n X C (K++[g]++[l]) F z D I gf (m:Int) a b c' X C F):=AG.of D I gf (m:Int) a b c' hB h hm;have H:Ae (AB w B X C (K++[g]++[l]) F/\ ↑F=top+1/\F[top]?=some y):=⟨h,hF,hy⟩
 clear h hm hy;go_enter func105,ntmps105;go_upto_region 1 with fail
 refine Av (λu=>Ae (AG w u B p top t d c n X C (K++[g]++[l]) F z D I gf (m:Int) a b c' X C F)/\Ah w w u) ⟨E0,Ar (Al _ _) lR (Al _ _)⟩ ?_
 rintro U ⟨Q,bU⟩;clear E0;clear aE;have aI:=Q.hM;go_wp2_with fail;refine(CZ B p t d c n X C (K++[g]) F z l U (mC Q.hB Q.gv.size) Q.own Q.mb oT).mono ?_;rintro e u1 ⟨rfl,k',N,E,s,P⟩;have R:Ae (AG w u1 B p top t d c n ⟨X.c,k',X.f⟩ C (K++[g]) F z D I gf (m:Int) a b c' X C F):=Q.pop N E s P;clear N E s P Q bU;go_wp2_with fail;refine(CZ B p t d c n ⟨X.c,k',X.f⟩ C K F z g u1 (mC R.hB R.gv.size) R.own R.mb oM).mono ?_;rintro e r ⟨rfl,G,N,E,s,P⟩;have E3:Ae (AG w r B p top t d c n ⟨X.c,G,X.f⟩ C K F z D I gf (m:Int) a b c' X C F):=R.pop N E s P;have aa:∀j,Dm ⟨X.c,G,X.f⟩ C F j->j<r.heap.size:= λj hj=>(E.ltOf hj).2
 clear N E s P R;clear u1;have aF:(w:Nat)+1<r.heap.size:=E3.ib.lt;have EN:Ae (AG w (Ac (Ac r (Ak #[l.type,Ag .u32 l.word] 193)) (Ak #[g.type,Ag .u32 g.word] 193)) B p top t d c n ⟨X.c,G,X.f⟩ C K F z D I gf (m:Int) a b c' X C F/\Ay (Ac (Ac r (Ak #[l.type,Ag .u32 l.word] 193)) (Ak #[g.type,Ag .u32 g.word] 193)) r #[l.type,Ag .u32 l.word] 193/\Ay (Ac (Ac r (Ak #[l.type,Ag .u32 l.word] 193)) (Ak #[g.type,Ag .u32 g.word] 193)) ((r:Nat)+1) #[g.type,Ag .u32 g.word] 193):=by have b1:=Al r (Ak #[l.type,Ag .u32 l.word] 193);have k1:=Ay.new r #[l.type,Ag .u32 l.word] 193;have G:=Ay.new (Ac r (Ak #[l.type,Ag .u32 l.word] 193)) #[g.type,Ag .u32 g.word] 193;rw[oQ]at G;exact⟨(E3.av b1).av (Al _ _),k1.av (Al _ _),G⟩
 go_upto_region 2 with fail
 generalize r.heap.size=q at EN aa aF⊢;refine Av (λu=>Ae (AG w u B p top t d c n ⟨X.c,G,X.f⟩ C K F z D I gf (m:Int) a b c' X C F/\Ay u q #[l.type,Ag .u32 l.word] 193/\Ay u (q+1) #[g.type,Ag .u32 g.word] 193)) EN ?_
 rintro S E4;clear EN E3;clear r;have aA:Ae (∀j,Dm ⟨X.c,G,X.f⟩ C F j->j<q):=aa;clear aa;have x0:=E4.2.2.cell 0;have x1:=E4.2.2.cell 1;have y1:=E4.2.1.cell 1;have i0:=E4.1.ib.cell 0;simp only[lQ,lO,lS]at x0 x1 y1 i0;have rf:=E4.1.mb.row (m*4+3) _ ae;rw[<-Nat.add_assoc]at rf;have L:=As S;have KD:S.drew ⟨q+1,0,M⟩=some ↑g.type/\S.drew ⟨q+1,1,M⟩=some (Ag .u32 g.word)/\S.drew ⟨q,1,M⟩=some (Ag .u32 l.word)/\S.drew ⟨(w:Nat)+1,0,M⟩=some ↑m/\S.drew ⟨p,8+m*4+3,M⟩=some (.func (.func A) #[] #[]):=⟨Au L x0,Au L x1,Au L y1,Au L i0,Au L rf⟩
 clear x0 x1 y1 i0 rf;have W:∀j,(j=w.heap.size+1\/j=q\/j=q+1)->¬(j=p\/(⟨X.c,G,X.f⟩:VS).k.ownBlock=some j):= λj hj e=>by
  rcases e with e|e
  . omega
  have N:=aA.o j (.inr (.inl e));have E:=E4.1.ji j (.inr (.inl e));omega
 go_upto_region 2 with fail
 go_region_held_law (λO=>O.cell? ⟨q+1,0,M⟩=some ↑g.type/\O.cell? ⟨q+1,1,M⟩=some (Ag .u32 g.word)/\O.cell? ⟨q,1,M⟩=some (Ag .u32 l.word)/\O.cell? ⟨(w:Nat)+1,0,M⟩=some ↑m/\O.cell? ⟨p,8+m*4+3,M⟩=some (.func (.func A) #[] #[])) (first|exact KD|exact KW|go_keep) (first
  |(go_simp;go_at_call 150;refine(Dw B p t d c n ⟨X.c,G,X.f⟩ C K F z ⟨1,V⟩ _ (mC E4.1.hB (E4.1.av L).gv.size) (E4.1.av L).own (E4.1.av L).mb oM).mono ?_;rintro e T ⟨rfl,k9,N,E,s,P⟩;have E5:Ae (AG w T B p top t d c n ⟨X.c,k9,X.f⟩ C (K++[⟨1,V⟩]) F z D I gf (m:Int) a b c' X C F):=(E4.1.av L).push N E s P;have KW:T ⟨q+1,0,M⟩=some ↑g.type/\T ⟨q+1,1,M⟩=some (Ag .u32 g.word)/\T ⟨q,1,M⟩=some (Ag .u32 l.word)/\T ⟨(w:Nat)+1,0,M⟩=some ↑m/\T ⟨p,8+m*4+3,M⟩=some (.func (.func A) #[] #[]):=⟨s.cell KD.1 (W _ sP),s.cell KD.2.1 (W _ sP),s.cell KD.2.2.1 (W _ sP),s.cell KD.2.2.2.1 (W _ sP),(by have:=E5.mb.row (m*4+3) _ ae;rw[<-Nat.add_assoc]at this;exact this)⟩;clear N E s P)
  |(go_simp;rw[au];refine(ax.o _).mono ?_;rintro e u6 ⟨rfl,rfl⟩))
 all_goals
  go_wp2_with fail;exact nR (v:=Ap #[]) kR rfl E5.ia
theorem RD(Q:Int)(l p:Nat)(g:MC)(B m top:Nat)(t:Int)(d:Bool)(c n:Int)(X:VS)(C:List (J×List MC))(K:List MC)(F:List (MG×J))(r:J)(s z gf c3:Nat)(y:MG×J)(op a b c':Int)(w:Y)(hB:B<= ↑w)(h:AB w B X C (K++[g]) F)(hm:BC w m t d c n X r)(hF: ↑F=top+1)(aH:top<=1048576)(hy:F[top]?=some y)(aE:X.f=Z gf (top+1) c3)(hK:K.length<1048576)(aG:op=(l:Int))(aK:l<30)(aq:BP[l*4+3]?=some (.func (.func p) #[] #[]))(aj:∀w,Ai Aq p #[g.type,Ag .u32 g.word,Ag .u32 0] w λe G=>e=Am (Ag .u32 Q)/\G=w)(ai:∀args w,(callFunc p args).run Aq w=.ok (.enter p args) w):
 Ai Aq 104 #[.pointer m,An #[.pointer (some ⟨s,z,M⟩),.pointer (some ⟨gf,top*4,M⟩)],An #[op,a,b,c']] w (B4 w B m t d c n C (K++[⟨g.type,Q⟩]) F r X C F):=by
 subst aG;have ax:Ae (∀w,Ai Aq p #[g.type,Ag .u32 g.word,Ag .u32 0] w λe G=>e=Am (Ag .u32 Q)/\G=w):=aj
 have au:Ae (∀args w,(callFunc p args).run Aq w=.ok (.enter p args) w):=ai;have ae:Ae (BP[l*4+3]?=some (.func (.func p) #[] #[])):=aq;have aJ:(l:Int)<30:=oM;clear aj ai aq;have E0:Ae (AG w ((w.alloc (Ak #[.pointer (some ⟨s,z,M⟩),.pointer (some ⟨gf,top*4,M⟩)] 143)).alloc (Ak #[l,a,b,c'] 25)) B m top t d c n X C (K++[g]) F r s z gf (l:Int) a b c' X C F):=AG.of s z gf (l:Int) a b c' hB h hm;have H:Ae (AB w B X C (K++[g]) F/\ ↑F=top+1/\F[top]?=some y):=⟨h,hF,hy⟩
 clear h hm hy;go_enter func104,ntmps104;go_upto_region 1 with fail
 refine Av (λu=>Ae (AG w u B m top t d c n X C (K++[g]) F r s z gf (l:Int) a b c' X C F)/\Ah w w u) ⟨E0,Ar (Al _ _) lR (Al _ _)⟩ ?_
 rintro U ⟨I,bU⟩;clear E0;clear aE;have aI:=I.hM;go_wp2_with fail;refine(CZ B m t d c n X C K F r g U (mC I.hB I.gv.size) I.own I.mb oM).mono ?_;rintro e E ⟨rfl,N,O,L,D,R⟩;have T:Ae (AG w E B m top t d c n ⟨X.c,N,X.f⟩ C K F r s z gf (l:Int) a b c' X C F):=I.pop O L D R;have W:∀j,Dm ⟨X.c,N,X.f⟩ C F j->j<E.heap.size:= λj hj=>(L.ltOf hj).2
 clear O L D R I bU;have aF:(w:Nat)+1<E.heap.size:=T.ib.lt;have V:Ae (AG w (Ac E (Ak #[g.type,Ag .u32 g.word] 193)) B m top t d c n ⟨X.c,N,X.f⟩ C K F r s z gf (l:Int) a b c' X C F/\Ay (Ac E (Ak #[g.type,Ag .u32 g.word] 193)) E #[g.type,Ag .u32 g.word] 193):=⟨T.av (Al _ _),Ay.new _ _ _⟩
 go_upto_region 2 with fail
 generalize E.heap.size=q at V W aF⊢;refine Av (λu=>Ae (AG w u B m top t d c n ⟨X.c,N,X.f⟩ C K F r s z gf (l:Int) a b c' X C F/\Ay u q #[g.type,Ag .u32 g.word] 193)) V ?_
 rintro P E4;clear V T;clear E;have aA:Ae (∀j,Dm ⟨X.c,N,X.f⟩ C F j->j<q):=W;clear W;have x0:=E4.2.cell 0;have x1:=E4.2.cell 1;have i0:=E4.1.ib.cell 0;simp only[lQ,lO,lS]at x0 x1 i0;have rf:=E4.1.mb.row (l*4+3) _ ae;rw[<-Nat.add_assoc]at rf;have A:=As P;have KD:P.drew q=some ↑g.type/\P.drew ⟨q,1,M⟩=some (Ag .u32 g.word)/\P.drew ⟨(w:Nat)+1,0,M⟩=some ↑l/\P.drew ⟨m,8+l*4+3,M⟩=some (.func (.func p) #[] #[]):=⟨Au A x0,Au A x1,Au A i0,Au A rf⟩
 clear x0 x1 i0 rf;have aa:∀j,(j=w.heap.size+1\/j=q\/j=q+1)->¬(j=m\/(⟨X.c,N,X.f⟩:VS).k.ownBlock=some j):= λj hj e=>by
  rcases e with e|e
  . omega
  have O:=aA.o j (.inr (.inl e));have L:=E4.1.ji j (.inr (.inl e));omega
 go_upto_region 2 with fail
 go_region_held_law (λG=>G.cell? q=some ↑g.type/\G.cell? ⟨q,1,M⟩=some (Ag .u32 g.word)/\G.cell? ⟨(w:Nat)+1,0,M⟩=some ↑l/\G.cell? ⟨m,8+l*4+3,M⟩=some (.func (.func p) #[] #[])) (first|exact KD|exact KW|go_keep) (first
  |(go_simp;go_at_call 150;refine(Dw B m t d c n ⟨X.c,N,X.f⟩ C K F r ⟨g.type,Q⟩ _ (mC E4.1.hB (E4.1.av A).gv.size) (E4.1.av A).own (E4.1.av A).mb oM).mono ?_;rintro e S ⟨rfl,k9,O,L,D,R⟩;have E5:Ae (AG w S B m top t d c n ⟨X.c,k9,X.f⟩ C (K++[⟨g.type,Q⟩]) F r s z gf (l:Int) a b c' X C F):=(E4.1.av A).push O L D R;have KW:S q=some ↑g.type/\S ⟨q,1,M⟩=some (Ag .u32 g.word)/\S ⟨(w:Nat)+1,0,M⟩=some ↑l/\S ⟨m,8+l*4+3,M⟩=some (.func (.func p) #[] #[]):=⟨D.cell KD.1 (aa _ sP),D.cell KD.2.1 (aa _ sP),D.cell KD.2.2.1 (aa _ sP),(by have:=E5.mb.row (l*4+3) _ ae;rw[<-Nat.add_assoc]at this;exact this)⟩;clear O L D R)
  |(go_simp;rw[au];refine(ax.o _).mono ?_;rintro e u6 ⟨rfl,rfl⟩))
 all_goals
  go_wp2_with fail;exact nR (v:=Ap #[]) kR rfl E5.ia
end Go.Proofs.YtkgohaigebcgoaaGreatDoor
