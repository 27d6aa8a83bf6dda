import Derived.Test.YtkgohaigebcgoaaGreatDoorLo28
namespace Go.Proofs.YtkgohaigebcgoaaGreatDoor
open Go.ChangeShapes Go.WideShapes Go.ChangeAt Go.RowKit Go.Proofs.Tryz
set_option linter.unusedVariables false
open Go.Value renaming slice → Z,agg → An,tuple → Ap
open Option renaming some → K,none → M
open Go renaming Value → J,World → Y,Calls → Ai,TypeId → Aj
open Go.RowKit renaming Hid → Ae,Below → Ah
open Go.Obj renaming cells → Ak
open Go.Proofs.Tryz renaming prog → Aq
open Go.World renaming setCell → Aa,alloc → Ac
set_option maxHeartbeats 4000000
set_option maxRecDepth 100000
variable {P:Program}{F:List (MG×J)}{m B top gf:Nat}{w u:Y}{t c n op a b c':Int}{d:Bool}{X:VS}{C:List (J×List MC)}
theorem NH(w:Y)(e y ty elem:Aj)(g o c h:Nat)(a:Addr)(d x:Nat)(b:Array J)(t:Aj)(cs:List J)
 (u:P.underlying e=K (.slice elem)) (f:(P.info? elem).map (·.size)=K 2)
 (m:w.heap[g]?=K (Ak b t (0,0))) (q: ↑cs=Nat.min d c*2)
 (r:∀j v,cs[j]?=K v->w (a.add j)=K v) (l:o+ ↑cs<=b.size) (k:∀v∈cs,v.oneCell'=true):
 (Builtin.copy_ #[e,y] ty #[Z (K ⟨g,o,M⟩) c h,Z (K a) d x]).run P w=
  .ok (goInt (Nat.min d c)) (w.setRow g (b.toList.take o++cs++b.toList.drop (o+ ↑cs)).toArray):=by
 have p:=run_loadCells_list (P:=P) w a cs r;have s:=run_storeCells_at P g o t cs 0 b w m (by simpa using l) k;cases hq:P.info? elem with
 |none=>simp[hq]at f
 | some i=>(have n:i.size=2:=by simpa[hq]using f);simp[Builtin.copy_,run_underlying u,Builtin.lenOf,Builtin.firstCells,sizeOf,typeInfo,hq,n,<-q,p,s]
theorem FE(w:Y)(c m ty elem:Aj)(d a:Option Addr)(b f e l:Nat)(k:P.underlying c=K (.slice elem))(j:(P.info? elem).map (·.size)=K 2)(h:Nat.min e b=0):
 (Builtin.copy_ #[c,m] ty #[Z d b f,Z a e l]).run P w=.ok (goInt 0) w:=by
 cases hq:P.info? elem with
 |none=>simp[hq]at j
 | some i=>(have g:∀(x:Addr),(loadCells x 0).run P w=.ok #[] w:= λx=>by simpa using run_loadCells_list (P:=P) w x [] sP);cases d<;>cases a<;>simp[Builtin.copy_,run_underlying k,Builtin.lenOf,Builtin.firstCells,sizeOf,typeInfo,hq,h,storeCells,g]
theorem Mq{r:J×List MC}(h:r∈Bm (F.take m)):r∈Bm F:=by unfold Bm at*;rw[List.map_take]at h;exact nF h
theorem AH.gX{i:Nat}{K:List MC}{y:J}{s z:Nat}{q:VS}{l:List (J×List MC)}{p:List (MG×J)}(h:AH w u B i top t d c n X C K F y s z gf op a b c' q l p){G c3:Nat}(v:X.f=Z gf G c3)(D:m<= ↑F):AH w (Aa u ⟨i,6,M⟩ (Z gf m c3)) B i top t d c n ⟨X.c,X.k,Z gf m c3⟩ C K (F.take m) y s z gf op a b c' q l p:=by
 have I:=h.hM;have A:=h.own.gX v D;have x:∀j,Dt ⟨X.c,X.k,Z gf m c3⟩ C (F.take m) j->Dt X C F j:= λj g=>by
  rcases g with e|e|e|e|⟨r,E,e⟩
  . exact .inl e
  . exact .inr (.inl e)
  . exact .inr (.inr (.inl (by rw[v];exact e)))
  . exact .inr (.inr (.inr (.inl e)))
  exact .inr (.inr (.inr (.inr ⟨r,Mq E,e⟩)))
 have H:=h.mb.jc (Z gf m c3);exact⟨H,GY A h.mb,h.fb.other oS _,h.ib.other oS _,h.eX.setCell (.inl (.inl rfl)) _, λj g=>h.fh j (x j g), λj g=>h.fJ j (x j g),h.hB,h.hM⟩
theorem AH.fI{e:Nat}{K:List MC}{l:J}{k:Nat}{j:VS}{g:List (J×List MC)}{i:List (MG×J)}(h:AH w u B e top t d c n X C K F l k m gf op a b c' j g i)(f:Bool):AH w (Aa u ⟨e,1,M⟩ f) B e top t f c n X C K F l k m gf op a b c' j g i:=by have p:=h.hM;exact⟨h.mb.fI f,GY h.own h.mb,h.fb.other oS _,h.ib.other oS _,h.eX.setCell (.inl (.inl rfl)) _,h.fh,h.fJ,h.hB,h.hM⟩
theorem SJ(B e top:Nat)(t:Int)(d:Bool)(c n:Int)(X:VS)(C:List (J×List MC))(K:List MC)(F:List (MG×J))(j:J)(g i gf c3:Nat)(y:MG×J)(op a b c':Int)(w:Y)(G:B<= ↑w)(h:AB w B X C K F)(x:BF w e t d c n X j)(I: ↑F=top+1)(O:top<=1048576)(A:F[top]?=some y)(m:X.f=Z gf (top+1) c3)(D:top=0):
 Ai Aq 113 #[.pointer e,An #[.pointer (some ⟨g,i,M⟩),.pointer (some ⟨gf,top*4,M⟩)],An #[op,a,b,c']] w (Cd w B e t true c n C K (F.take top) j X C F):=by
 have E:Ae (top=0):=D;clear D;have r:Ae (AH w (Ac (Ac w (Ak #[.pointer (some ⟨g,i,M⟩),.pointer (some ⟨gf,top*4,M⟩)] 143)) (Ak #[op,a,b,c'] 25)) B e top t d c n X C K F j g i gf op a b c' X C F):=AH.of g i gf op a b c' G h x;have H:Ae (AB w B X C K F/\ ↑F=top+1/\F[top]?=some y):=⟨h,I,A⟩
 clear h x A;go_enter func113,ntmps113;go_upto_region 1 with fail
 refine Av (λu=>Ae (AH w u B e top t d c n X C K F j g i gf op a b c' X C F)/\Ah w w u) ⟨r,Ar (Al _ _) lR (Al _ _)⟩ ?_
 rintro U ⟨E1,N⟩;clear r;have P:=E1.hM;have q:=E1.mb.at.2.2.2.2.2.2.1;rw[m]at q;have p:=At U;have T:=Au p q;have W:=(E1.mb.av p).frozen 6;have Q:((top:Int)==0)=true:=by have:=E.o;simp;omega
 have S:IntKind.i64.wrap (top:Int)=(top:Int):=lr _ oM;have R:(top:Int)<=(c3:Int):=by have z:=E1.own.dk;rw[m]at z;have:=Gx z;omega
 have s:Ae (AH w (Aa U.drew ⟨e,6,M⟩ (Z gf top c3)) B e top t d c n ⟨X.c,X.k,Z gf top c3⟩ C K (F.take top) j g i gf op a b c' X C F):=(E1.av p).gX m oM;clear m q;go_upto_region 1 with fail
 go_region_law (fail);all_goals
  go_upto_region 2 with fail
  refine Av (λu=>Ae (AH w u B e top t d c n ⟨X.c,X.k,Z gf top c3⟩ C K (F.take top) j g i gf op a b c' X C F)) s ?_;rintro V l;clear s;have L:=l.mb.at.2.2.2.2.2.2.1;have n1:=l.mb.at.2.1;have aa:=l.mb.frozen 1;simp only[]at L;have E4:Ae (AH w (V.setCell ⟨e,1,M⟩ true) B e top t true c n ⟨X.c,X.k,Z gf top c3⟩ C K (F.take top) j g i gf op a b c' X C F):=l.fI true;go_wp2_with fail;exact lD (v:=Ap #[]) kR rfl E4.eY
theorem SI(B e top:Nat)(t:Int)(d:Bool)(c n:Int)(X:VS)(C:List (J×List MC))(K:List MC)(F:List (MG×J))(j:J)(g i gf c3:Nat)(y:MG×J)(op a b c':Int)(w:Y)(G:B<= ↑w)(h:AB w B X C K F)(x:BF w e t d c n X j)(I: ↑F=top+1)(O:top<=1048576)(A:F[top]?=some y)(m:X.f=Z gf (top+1) c3)(D:¬top=0):
 Ai Aq 113 #[.pointer e,An #[.pointer (some ⟨g,i,M⟩),.pointer (some ⟨gf,top*4,M⟩)],An #[op,a,b,c']] w (Cd w B e t false c n C K (F.take top) j X C F):=by
 have E:Ae (¬top=0):=D;clear D;have r:Ae (AH w (Ac (Ac w (Ak #[.pointer (some ⟨g,i,M⟩),.pointer (some ⟨gf,top*4,M⟩)] 143)) (Ak #[op,a,b,c'] 25)) B e top t d c n X C K F j g i gf op a b c' X C F):=AH.of g i gf op a b c' G h x;have H:Ae (AB w B X C K F/\ ↑F=top+1/\F[top]?=some y):=⟨h,I,A⟩
 clear h x A;go_enter func113,ntmps113;go_upto_region 1 with fail
 refine Av (λu=>Ae (AH w u B e top t d c n X C K F j g i gf op a b c' X C F)/\Ah w w u) ⟨r,Ar (Al _ _) lR (Al _ _)⟩ ?_
 rintro U ⟨E1,N⟩;clear r;have P:=E1.hM;have q:=E1.mb.at.2.2.2.2.2.2.1;rw[m]at q;have p:=At U;have T:=Au p q;have W:=(E1.mb.av p).frozen 6;have Q:((top:Int)==0)=false:=by have:=E.o;simp;omega
 have S:IntKind.i64.wrap (top:Int)=(top:Int):=lr _ oM;have R:(top:Int)<=(c3:Int):=by have z:=E1.own.dk;rw[m]at z;have:=Gx z;omega
 have s:Ae (AH w (Aa U.drew ⟨e,6,M⟩ (Z gf top c3)) B e top t d c n ⟨X.c,X.k,Z gf top c3⟩ C K (F.take top) j g i gf op a b c' X C F):=(E1.av p).gX m oM;clear m q;go_upto_region 1 with fail
 go_region_law (fail);all_goals
  go_upto_region 2 with fail
  refine Av (λu=>Ae (AH w u B e top t d c n ⟨X.c,X.k,Z gf top c3⟩ C K (F.take top) j g i gf op a b c' X C F)) s ?_;rintro V l;clear s;have L:=l.mb.at.2.2.2.2.2.2.1;have n1:=l.mb.at.2.1;have aa:=l.mb.frozen 1;simp only[]at L;have E4:Ae (AH w (V.setCell ⟨e,1,M⟩ false) B e top t false c n ⟨X.c,X.k,Z gf top c3⟩ C K (F.take top) j g i gf op a b c' X C F):=l.fI false;go_wp2_with fail;exact lD (v:=Ap #[]) kR rfl E4.eY
end Go.Proofs.YtkgohaigebcgoaaGreatDoor
