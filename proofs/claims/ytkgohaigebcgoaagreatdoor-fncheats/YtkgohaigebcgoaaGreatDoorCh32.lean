import Derived.Test.YtkgohaigebcgoaaGreatDoorCh28
namespace Go.Proofs.YtkgohaigebcgoaaGreatDoor
open Go.ChangeShapes Go.WideShapes Go.ChangeAt Go.RowKit Go.Proofs.Tryz
set_option linter.unusedVariables false
open Go.Value renaming slice → Z,agg → An,tuple → Ap
open Option renaming some → K,none → M
open Go renaming Value → J,World → Y,Calls → Ai,TypeId → Aj
open Go.RowKit renaming Hid → Ae,Below → Ah
open Go.Obj renaming cells → Ak
open Go.Proofs.Tryz renaming prog → Aq
open Go.World renaming setCell → Aa,alloc → Ac
set_option maxHeartbeats 4000000
set_option maxRecDepth 100000
variable {P:Program}{F:List (MG×J)}{m B l top gf:Nat}{w u:Y}{t c n op a b c':Int}{d:Bool}{X:VS}{C:List (J×List MC)}
theorem NF(w:Y)(e z ty elem:Aj)(g o c h:Nat)(a:Addr)(d y:Nat)(b:Array J)(t:Aj)(cs:List J)
 (u:P.underlying e=K (.slice elem)) (f:(P.info? elem).map (·.size)=K 2)
 (m:w.heap[g]?=K (Ak b t (0,0))) (q: ↑cs=Nat.min d c*2)
 (r:∀j v,cs[j]?=K v->w (a.add j)=K v) (l:o+ ↑cs<=b.size) (k:∀v∈cs,v.oneCell'=true):
 (Builtin.copy_ #[e,z] ty #[Z (K ⟨g,o,M⟩) c h,Z (K a) d y]).run P w=
  .ok (goInt (Nat.min d c)) (w.setRow g (b.toList.take o++cs++b.toList.drop (o+ ↑cs)).toArray):=by
 have p:=run_loadCells_list (P:=P) w a cs r;have s:=run_storeCells_at P g o t cs 0 b w m (by simpa using l) k;cases hq:P.info? elem with
 |none=>simp[hq]at f
 | some i=>(have n:i.size=2:=by simpa[hq]using f);simp[Builtin.copy_,run_underlying u,Builtin.lenOf,Builtin.firstCells,sizeOf,typeInfo,hq,n,<-q,p,s]
theorem Fy(w:Y)(c m ty elem:Aj)(d a:Option Addr)(b f e l:Nat)(k:P.underlying c=K (.slice elem))(j:(P.info? elem).map (·.size)=K 2)(h:Nat.min e b=0):
 (Builtin.copy_ #[c,m] ty #[Z d b f,Z a e l]).run P w=.ok (goInt 0) w:=by
 cases hq:P.info? elem with
 |none=>simp[hq]at j
 | some i=>(have g:∀(x:Addr),(loadCells x 0).run P w=.ok #[] w:= λx=>by simpa using run_loadCells_list (P:=P) w x [] sP);cases d<;>cases a<;>simp[Builtin.copy_,run_underlying k,Builtin.lenOf,Builtin.firstCells,sizeOf,typeInfo,hq,h,storeCells,g]
theorem Mh{r:J×List MC}(h:r∈Bh (F.take m)):r∈Bh F:=by unfold Bh at*;rw[List.map_take]at h;exact pi h
theorem AG.jV{K:List MC}{A:J}{v D:Nat}{s:VS}{p:List (J×List MC)}{q:List (MG×J)}(h:AG w u B l top t d c n X C K F A v D gf op a b c' s p q){I c3:Nat}(y:X.f=Z gf I c3)(G:m<= ↑F):AG w (Aa u ⟨l,6,M⟩ (Z gf m c3)) B l top t d c n ⟨X.c,X.k,Z gf m c3⟩ C K (F.take m) A v D gf op a b c' s p q:=by
 have N:=h.hM;have E:=h.own.jV y G;have z:∀j,Dm ⟨X.c,X.k,Z gf m c3⟩ C (F.take m) j->Dm X C F j:= λj g=>by
  rcases g with e|e|e|e|⟨r,H,e⟩
  . exact .inl e
  . exact .inr (.inl e)
  . exact .inr (.inr (.inl (by rw[y];exact e)))
  . exact .inr (.inr (.inr (.inl e)))
  exact .inr (.inr (.inr (.inr ⟨r,Mh H,e⟩)))
 have L:=h.mb.kP (Z gf m c3);exact⟨L,GP E h.mb,h.fb.other oS _,h.ib.other oS _,h.gv.setCell (.inl (.inl rfl)) _, λj g=>h.iy j (z j g), λj g=>h.ji j (z j g),h.hB,h.hM⟩
theorem AG.jp{e:Nat}{K:List MC}{m:J}{p:Nat}{k:VS}{g:List (J×List MC)}{j:List (MG×J)}(h:AG w u B e top t d c n X C K F m l p gf op a b c' k g j)(f:Bool):AG w (Aa u ⟨e,1,M⟩ f) B e top t f c n X C K F m l p gf op a b c' k g j:=by have q:=h.hM;exact⟨h.mb.jp f,GP h.own h.mb,h.fb.other oS _,h.ib.other oS _,h.gv.setCell (.inl (.inl rfl)) _,h.iy,h.ji,h.hB,h.hM⟩
theorem SF(B e top:Nat)(t:Int)(d:Bool)(c n:Int)(X:VS)(C:List (J×List MC))(K:List MC)(F:List (MG×J))(l:J)(g j gf c3:Nat)(y:MG×J)(op a b c':Int)(w:Y)(N:B<= ↑w)(h:AB w B X C K F)(D:BC w e t d c n X l)(O: ↑F=top+1)(R:top<=1048576)(G:F[top]?=some y)(q:X.f=Z gf (top+1) c3)(I:top=0):
 Ai Aq 113 #[.pointer e,An #[.pointer (some ⟨g,j,M⟩),.pointer (some ⟨gf,top*4,M⟩)],An #[op,a,b,c']] w (B4 w B e t true c n C K (F.take top) l X C F):=by
 have L:Ae (top=0):=I;clear I;have z:Ae (AG w (Ac (Ac w (Ak #[.pointer (some ⟨g,j,M⟩),.pointer (some ⟨gf,top*4,M⟩)] 143)) (Ak #[op,a,b,c'] 25)) B e top t d c n X C K F l g j gf op a b c' X C F):=AG.of g j gf op a b c' N h D;have H:Ae (AB w B X C K F/\ ↑F=top+1/\F[top]?=some y):=⟨h,O,G⟩
 clear h D G;go_enter func113,ntmps113;go_upto_region 1 with fail
 refine Av (λu=>Ae (AG w u B e top t d c n X C K F l g j gf op a b c' X C F)/\Ah w w u) ⟨z,Ar (Al _ _) lR (Al _ _)⟩ ?_
 rintro U ⟨m,Q⟩;clear z;have S:=m.hM;have s:=m.mb.at.2.2.2.2.2.2.1;rw[q]at s;have r:=As U;have ae:=Au r s;have ai:=(m.mb.av r).frozen 6;have T:((top:Int)==0)=true:=by have:=L.o;simp;omega
 have aa:IntKind.i64.wrap (top:Int)=(top:Int):=oY _ oM;have W:(top:Int)<=(c3:Int):=by have E:=m.own.dk;rw[q]at E;have:=Gq E;omega
 have A:Ae (AG w (Aa U.drew ⟨e,6,M⟩ (Z gf top c3)) B e top t d c n ⟨X.c,X.k,Z gf top c3⟩ C K (F.take top) l g j gf op a b c' X C F):=(m.av r).jV q oM;clear q s;go_upto_region 1 with fail
 go_region_law (fail);all_goals
  go_upto_region 2 with fail
  refine Av (λu=>Ae (AG w u B e top t d c n ⟨X.c,X.k,Z gf top c3⟩ C K (F.take top) l g j gf op a b c' X C F)) A ?_;rintro V p;clear A;have P:=p.mb.at.2.2.2.2.2.2.1;have n1:=p.mb.at.2.1;have aj:=p.mb.frozen 1;simp only[]at P;have E4:Ae (AG w (V.setCell ⟨e,1,M⟩ true) B e top t true c n ⟨X.c,X.k,Z gf top c3⟩ C K (F.take top) l g j gf op a b c' X C F):=p.jp true;go_wp2_with fail;exact nR (v:=Ap #[]) kR rfl E4.ia
theorem SE(B e top:Nat)(t:Int)(d:Bool)(c n:Int)(X:VS)(C:List (J×List MC))(K:List MC)(F:List (MG×J))(l:J)(g j gf c3:Nat)(y:MG×J)(op a b c':Int)(w:Y)(N:B<= ↑w)(h:AB w B X C K F)(D:BC w e t d c n X l)(O: ↑F=top+1)(R:top<=1048576)(G:F[top]?=some y)(q:X.f=Z gf (top+1) c3)(I:¬top=0):
 Ai Aq 113 #[.pointer e,An #[.pointer (some ⟨g,j,M⟩),.pointer (some ⟨gf,top*4,M⟩)],An #[op,a,b,c']] w (B4 w B e t false c n C K (F.take top) l X C F):=by
 have L:Ae (¬top=0):=I;clear I;have z:Ae (AG w (Ac (Ac w (Ak #[.pointer (some ⟨g,j,M⟩),.pointer (some ⟨gf,top*4,M⟩)] 143)) (Ak #[op,a,b,c'] 25)) B e top t d c n X C K F l g j gf op a b c' X C F):=AG.of g j gf op a b c' N h D;have H:Ae (AB w B X C K F/\ ↑F=top+1/\F[top]?=some y):=⟨h,O,G⟩
 clear h D G;go_enter func113,ntmps113;go_upto_region 1 with fail
 refine Av (λu=>Ae (AG w u B e top t d c n X C K F l g j gf op a b c' X C F)/\Ah w w u) ⟨z,Ar (Al _ _) lR (Al _ _)⟩ ?_
 rintro U ⟨m,Q⟩;clear z;have S:=m.hM;have s:=m.mb.at.2.2.2.2.2.2.1;rw[q]at s;have r:=As U;have ae:=Au r s;have ai:=(m.mb.av r).frozen 6;have T:((top:Int)==0)=false:=by have:=L.o;simp;omega
 have aa:IntKind.i64.wrap (top:Int)=(top:Int):=oY _ oM;have W:(top:Int)<=(c3:Int):=by have E:=m.own.dk;rw[q]at E;have:=Gq E;omega
 have A:Ae (AG w (Aa U.drew ⟨e,6,M⟩ (Z gf top c3)) B e top t d c n ⟨X.c,X.k,Z gf top c3⟩ C K (F.take top) l g j gf op a b c' X C F):=(m.av r).jV q oM;clear q s;go_upto_region 1 with fail
 go_region_law (fail);all_goals
  go_upto_region 2 with fail
  refine Av (λu=>Ae (AG w u B e top t d c n ⟨X.c,X.k,Z gf top c3⟩ C K (F.take top) l g j gf op a b c' X C F)) A ?_;rintro V p;clear A;have P:=p.mb.at.2.2.2.2.2.2.1;have n1:=p.mb.at.2.1;have aj:=p.mb.frozen 1;simp only[]at P;have E4:Ae (AG w (V.setCell ⟨e,1,M⟩ false) B e top t false c n ⟨X.c,X.k,Z gf top c3⟩ C K (F.take top) l g j gf op a b c' X C F):=p.jp false;go_wp2_with fail;exact nR (v:=Ap #[]) kR rfl E4.ia
end Go.Proofs.YtkgohaigebcgoaaGreatDoor
