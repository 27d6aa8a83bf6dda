import Derived.Test.YtadcneiiokbofaaGreatBo2
namespace Go.Proofs.YtadcneiiokbofaaGreat
open Go.ChangeShapes Go.WideShapes Go.ChangeAt Go.RowKit Go.Proofs.Tryz
set_option linter.unusedVariables false
open Option renaming some → K,none → M
open Go renaming World → Y,Value → J,Calls → Ai
open Go.IntKind renaming i64 → Af
open Go.RowKit renaming Below → Ah,Hid → Ae
open Go.Value renaming slice → Z,int → Ag,agg → Am
open Go.Obj renaming cells → Ak
open Go.Proofs.Tryz renaming prog → Ap
open Go.World renaming alloc → Ac
open List renaming flatMap → Ad
set_option maxHeartbeats 2000000
set_option maxRecDepth 100000
variable {D u:DataW Unit}{xs:List MI}{k c:Nat}{x:MI}{w a wr U:Y}
theorem Jh:∀(a b:List Int),a.Pairwise (· < ·)->b.Pairwise (· < ·)->(∀z,z∈a↔z∈b)->a=b
 |[],[],_,_,_=>rfl
 |[],y::b,_,_,h=>by have:=(h y).2 sP;cases this
 |x::a,[],_,_,h=>by have:=(h x).1 sP;cases this
 | x ::a,y::b,ha,hb,h=>by
   obtain⟨f,i⟩:=mj.1 ha;obtain⟨g,j⟩:=mj.1 hb;have e:x=y:=by
    rcases lw.1 ((h x).1 sP)with e|e
    . exact e
    rcases lw.1 ((h y).2 sP)with d|d
    . exact d.symm
    have:=g x e;have:=f y d;omega
   subst e;(congr 1);refine Jh a b i j λz=>⟨λc=> ?_, λc=> ?_⟩
   . rcases lw.1 ((h z).1 (mX _ c))with e|e
     . have:=f z c;omega
     exact e
   rcases lw.1 ((h z).2 (mX _ c))with e|e
   . have:=g z c;omega
   exact e
theorem WZ(xs:List MI)(j:Nat)(c:AZ xs)(h:BL xs xs j=true):j<=xs.length:=by
 simp only[BL,Bool.or_eq_true,List.any_eq_true,nE,my]at h;rcases h with h|⟨i,d,h⟩
 . omega
 cases hx:xs[i]? with
 |none=>rw[hx]at h;cases h
 | some x=>
   rw[hx]at h;simp only[F7,Bool.or_eq_true,nO,my]at h;rcases h with⟨a,b⟩|⟨_,b⟩
   . have:=c.2.2 i x hx a;omega
   omega
def Ew(D:DataW Unit)(xs:List MI)(k:Nat):Prop:=∀z:Int,Go.Maps.has D (.int Af z)=(decide (0<=z)&&BL xs k z.toNat)
theorem Er(D:DataW Unit)(a:Go.Maps.IsMap D)(z y:Int)(u:DataW Unit):Go.Maps.has (D.put (.int Af z) u) (.int Af y)=(Go.Maps.has D (.int Af y)||decide (y=z)):=by
 by_cases h:y=z
 . subst h;rw[Go.Maps.has_put_same a (show WideAt.IsKeyLit (Lit.int Af y)from trivial)];simp
 rw[Go.Maps.has_put_other (λe=>h (by cases e;rfl))];simp[h]
theorem Ew.start(xs:List MI)(u:DataW Unit):Ew ((DataW.map []:DataW Unit).put (.int Af 0) u) xs 0:= λz=>by
 rw[Er _ Go.Maps.isMap_empty,KF];have e:Go.Maps.has (DataW.map []:DataW Unit) (.int Af z)=false:=rfl;rw[e];by_cases h:z=0
 . subst h;rfl
 by_cases a:0<=z
 . have:¬z.toNat=0:=oM;simp[h,this]
 simp[h,a]
theorem Ew.none(h:Ew D xs k)(c:xs[k]?=K x)(a:A3 x=false)(b:¬x.op=29):Ew D xs (k+1):= λz=>by rw[h z,Ej xs k _ x c];simp[F7,a,b]
theorem Ew.ret(h:Ew D xs k)(b:Go.Maps.IsMap D)(f:xs[k]?=K x)(c:A3 x=false)(d:x.op=29):Ew (D.put (.int Af ((k:Int)+1)) u) xs (k+1):= λz=>by
 rw[Er D b,h z,Ej xs k _ x f];by_cases a:0<=z
 . have e:decide (z=(k:Int)+1)=decide (z.toNat=k+1):=decide_eq_decide.2 ⟨λ_=>oM, λ_=>oM⟩;rw[e];simp[F7,c,d,a]
 have e:decide (z=(k:Int)+1)=false:=oT;simp[e,a]
theorem Ew.kZ{i:DataW Unit}(h:Ew D xs k)(d:Go.Maps.IsMap D)(g:xs[k]?=K x)(f:A3 x=true)(j:0<=x.c):Ew ((D.put (.int Af x.c) u).put (.int Af ((k:Int)+1)) i) xs (k+1):= λz=>by
 rw[Er _ (d.put _ _),Er D d,h z,Ej xs k _ x g];by_cases b:0<=z
 . have e:decide (z=(k:Int)+1)=decide (z.toNat=k+1):=decide_eq_decide.2 ⟨λ_=>oM, λ_=>oM⟩;have a:decide (z=x.c)=decide (x.c=(z.toNat:Int)):=decide_eq_decide.2 ⟨λ_=>oM, λ_=>oM⟩;rw[e,a];simp[F7,f,b,Bool.or_assoc]
 have e:decide (z=(k:Int)+1)=false:=oT;have a:decide (z=x.c)=false:=oT;simp[e,a,b]
theorem D7(h:Ah w w a):w.grownBy a M:=⟨h.os,h.tape,h.output,h.size, λk b _=>h.block k b⟩
theorem AP.a7{c:Y}{b a:Nat}(h:AP w b a D)(d:Ah w w c):AP c b a D:=World.ownsMap.kept h (D7 d) sP
structure LX(w wr U:Y)(x:MI)(cnt:Nat)(D:DataW Unit):Prop where
 set:AP U w cnt D
 xb:AA U wr #[x.op,x.a,x.b,x.c] 79
 ej:Ah w w U
 lt:(w:Nat)< ↑wr
theorem LX.a7{b:Y}(h:LX w wr U x c D)(a:Ah U U b):LX w wr b x c D:=⟨h.set.a7 a,h.xb.a7 a,Ar h.ej lR a,h.lt⟩
theorem LX.grown{f:Nat}{b:DataW Unit}(h:LX w wr U x f D)(i:AP a w c b)(d:U.grownBy a (K w)):LX w wr a x c b:=by refine⟨i,?_,h.ej.grown d h.ej.size (λj g=>by cases g;exact Nat.le_refl _),h.lt⟩;have:=h.xb;have k:=h.lt;unfold AA at*;rw[d.block _ h.xb.lt (λe=>by have:=lP e;omega)];exact this
theorem Lw(s:J)(a:List MC)(w:Y)(N:a.length<=1048576)(hw:∀c∈a,0<=c.word)(h:Rd w 2 s a (Ad MC.cells a)):
 Ai Ap 84 #[s] w λe O=>AM e (Bh a)/\Ah w w O:=by
 have q:=Av h;obtain⟨P,c1,rfl⟩:=h.bW;have F:=Av hw;generalize I:a.length=n at N q;have d:=Av I;by_cases V:64<n
 . (have l:Ae (¬Bh a):= λe=>absurd e.1 (by rw[d];omega));go_enter func84,ntmps84;go_wp2;go_ret;exact⟨.no l,lu _ _⟩
 go_enter func84,ntmps84;go_wp2;go_loopw [10] (λi wr=>∃k:Nat,k<=n/\i=iZ k/\Ae (∀j,j<k->∀c,a[j]?=K c->DV c)/\Ae (Ah w w wr)) (λi _=>n-(intOf i).toNat)
 case atStart=>exact⟨0,oM,rfl, λj R=>oM,lu _ _⟩
 obtain⟨k,S,rfl,r,f⟩:=hrel;by_cases A:k<n
 . obtain⟨x,p⟩:∃x,a[k]?=K x:=⟨_,an (by rw[d];exact A)⟩;rcases q.2 with⟨Q,_⟩|⟨b,o,c,v,z⟩
   . omega
   simp only[lB,mB]at v;obtain⟨rfl,rfl⟩:=v;have g:=Rd.elem MC.dr z k x p 0 _ rfl;have B:=Rd.elem MC.dr z k x p 1 _ rfl;rw[<-f.cell (g8 g),lJ]at g;rw[<-f.cell (g8 B)]at B;have m:=Av p;have U:¬b=wr.heap.size:=mR (g8 g);have T:b<wr.heap.size:=g8 g;have D:Ae (Ah w w (Ac wr (Ak #[x.type,Ag .u32 x.word] 102))):=Ar f lR (Aq _ _);go_wp2_with fail;refine(Qm x.type x.word _ (F.o x (lA m))).mono ?_;rintro e u ⟨⟨G,rfl,y⟩,H⟩;have t:=Av (Ar D lR H);cases G
   . (have l:Ae (¬Bh a):= λe=>absurd (y.2 (e.2 k (by rw[d];exact A) x m)) nR);go_wp2;go_ret;exact⟨.no l,t⟩
   have C:Ae (DV x):=y.1 rfl;go_wp2;go_roundw;(case rel=>exact⟨k+1,oM,by go_num,CO m C r,t⟩);exact oI
 have L:n=k:=oM;subst L;have E:Ae (Bh a):=⟨by rw[d];omega,by rw[d];exact r⟩;go_wp2;go_ret;exact⟨.iu E,f⟩
theorem Kh{q:Prop}(h:q:=by generalize f.gU.length=n1 at*;generalize f.gW.length=n2 at*;generalize f.bO.length=n3 at*;go_enter func106,ntmps106;go_wp2;go_ret;exact⟨.no HN,HB⟩):q:=h
theorem MZ(v:VF)(f:MF)(w:Y)(s:f.small)(h:DF w v f):
 Ai Ap 106 #[Am #[v.p,f.gV,v.l,v.c]] w λe A=>AM e (CP f)/\Ah w w A:=by
 have b:=Av (d5 h s);obtain⟨t,c1,n⟩:=h.1.bW;obtain⟨x,c2,q⟩:=h.2.1.bW;obtain⟨y,c3,r⟩:=h.2.2.bW;obtain⟨S,Q,P⟩:=v;obtain⟨L,N,O⟩:=s;simp only[]at n q r;subst n q r;have HB:Ae (Ah w w (Ac w (Ak #[Z t f.gU c1,f.gV,Z x f.gW c2,Z y f.bO c3] 76))):=Aq _ _;by_cases B:8<f.gU.length
 . (have HN:Ae (¬CP f):= λe=>absurd e.par oM);exact Kh
 by_cases D:32<f.gU.length+ ↑f.gW
 . (have HN:Ae (¬CP f):= λe=>absurd e.loc oM);exact Kh
 by_cases d:f.bO.length=0
 . (have HN:Ae (¬CP f):= λe=>e.jq d);generalize f.gU.length=n1 at*;generalize f.gW.length=n2 at*;generalize f.bO.length=n3 at*;subst d;go_enter func106,ntmps106;go_wp2;go_ret;exact⟨.no HN,HB⟩
 by_cases G:1024<f.bO.length
 . (have HN:Ae (¬CP f):= λe=>absurd e.kf oM);exact Kh
 have C:¬(8:Int)<(f.gU:Int):=oM;have E:¬(32:Int)<(f.gU:Int)+(f.gW:Int):=oM;have F:((f.bO:Int)==0)=false:=by simpa using d
 have H:¬(1024:Int)<(f.bO:Int):=oM;have a:Ae (f.gU.length<=8/\f.gU.length+ ↑f.gW<=32/\¬f.bO.length=0/\f.bO.length<=1024):=⟨oM,oM,d,oM⟩
 go_enter func106,ntmps106;go_wp2_with fail;refine(GO _ f.gU _ b.2.1 (b.1.1.a7 HB lR)).mono ?_;rintro e u ⟨rfl,rfl⟩;cases t1:f.gU.all Fo
 . (have HN:Ae (¬CP f):= λe=>by have:=e.pt;simp[t1]at this);go_wp2;go_ret;exact⟨.no HN,HB⟩
 have k:=Av t1;go_wp2_with fail;refine(GO _ f.gW _ b.2.2.1 (b.1.2.1.a7 HB lR)).mono ?_;rintro e u ⟨rfl,rfl⟩;cases t1:f.gW.all Fo
 . (have HN:Ae (¬CP f):= λe=>by have:=e.lt;simp[t1]at this);go_wp2;go_ret;exact⟨.no HN,HB⟩
 have m:=Av t1;generalize z:f.gV=R at*;have g:=Av z;by_cases j:R=0
 . subst j;have i:Ae (CP f):=⟨a.1,a.2.1,k,m,.inl g,a.2.2.1,a.2.2.2⟩;go_wp2;go_ret;exact⟨.iu i,HB⟩
 have I:(R==0)=false:=by simpa using j
 go_wp2_with fail;refine(Eh R _).mono ?_;rintro e u ⟨rfl,rfl⟩;cases t1:Fo R
 . (have HN:Ae (¬CP f):= λe=>by have:=e.ik;rw[g]at this;simp[j,t1]at this);go_wp2;go_ret;exact⟨.no HN,HB⟩
 have i:Ae (CP f):=⟨a.1,a.2.1,k,m,.inr (by rw[g];exact t1),a.2.2.1,a.2.2.2⟩;go_wp2;go_ret;exact⟨.iu i,HB⟩
end Go.Proofs.YtadcneiiokbofaaGreat
