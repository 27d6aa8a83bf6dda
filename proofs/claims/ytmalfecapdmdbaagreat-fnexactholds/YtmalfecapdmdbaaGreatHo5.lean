import Derived.Test.YtmalfecapdmdbaaGreatHo3
namespace Go.Proofs.YtmalfecapdmdbaaGreat
open Go.ChangeShapes Go.WideShapes Go.ChangeAt Go.RowKit Go.Proofs.Tryz
set_option linter.unusedVariables false
open Go.Value renaming slice → Z,agg → Am,int → Ag
open Option renaming some → K
open Go renaming Value → J,World → Y,Calls → Ai
open Go.RowKit renaming Hid → Ae,Below → Ah
open Go.Obj renaming cells → Ak
open Go.Ending renaming returned → Al
open Go.Proofs.Tryz renaming prog → Ap
open Go.World renaming alloc → Ac
open List renaming flatMap → Ad
set_option maxHeartbeats 2000000
set_option maxRecDepth 100000
theorem Ir(r s t u:J)(g:VF)(f:MF)(n:Nat)(z:Int)(w:Y)(F:f.small)(h:DE w g f)(i:(f.gw++f.gG)[n]?=K z):
 Ai Ap 126 #[Am #[r,s,t,u,g.p,f.gy,g.l,g.c],n] w λe L=>e=Al z/\Ah w w L:=by
 obtain⟨x,c1,b⟩:=h.1.dk;obtain⟨y,c2,m⟩:=h.2.1.dk;obtain⟨U,T,I⟩:=g;obtain⟨Q,R,S⟩:=F;simp only[]at b m;subst b m;have k:Ae (Ah w w (Ac w (Ak #[r,s,t,u,Z x f.gw c1,f.gy,Z y f.gG c2,I] 158))):=Aq _ _;by_cases q:n< ↑f.gw
 . rw[lO q]at i;have E:(n:Int)<(f.gw:Int):=oM;rcases h.1.2 with⟨A,_⟩|⟨gr,C,B,b,j⟩
   . omega
   simp only[i8,lB]at b;obtain⟨rfl,rfl⟩:=b;have a:=Rd.elem AA j n z i 0 _ rfl;rw[lN,kJ]at a;have G:=(k.cell (hC a)).trans a;have H:¬gr=w.heap.size:=mA (hC a);clear h i j;generalize f.gw.length=N at*;generalize f.gG.length=v at*;go_enter func126,ntmps126;go_wp2;go_ret;exact⟨rfl,k⟩
 rw[kT oM]at i;have D:=(i6.1 i).1;obtain⟨d,rfl⟩:∃d,n= ↑f.gw+d:=⟨n-↑f.gw,oM⟩
 rw[mH]at i;have E:¬((↑f.gw+d:Nat):Int)<(f.gw:Int):=oM
 rcases h.2.1.2 with⟨A,_⟩|⟨gr,C,B,b,j⟩
 . omega
 simp only[i8,lB]at b;obtain⟨rfl,rfl⟩:=b;have a:=Rd.elem AA j d z i 0 _ rfl;rw[lN,kJ]at a;have G:=(k.cell (hC a)).trans a;have H:¬gr=w.heap.size:=mA (hC a);have O:d<f.gG.length:=oM;clear h i j q D;generalize f.gw.length=N at*;generalize f.gG.length=v at*;have P:((N+d:Nat):Int)-(N:Int)=(d:Int):=oM;go_enter func126,ntmps126;go_wp2;go_ret;exact⟨rfl,k⟩
theorem K3(s:J)(cs:List MC)(w:Y)(L:cs.length<=1048576)(hw:∀c∈cs,0<=c.word)(h:Rd w 2 s cs (Ad MC.cells cs)):
 Ai Ap 77 #[s] w λe N=>AJ e (Be cs)/\Ah w w N:=by
 have p:=Av h;obtain⟨O,c1,rfl⟩:=h.dk;have E:=Av hw;generalize H:cs.length=n at L p;have a:=Av H;by_cases U:64<n
 . (have g:Ae (¬Be cs):= λe=>absurd e.1 (by rw[a];omega));go_enter func77,ntmps77;go_wp2;go_ret;exact⟨.no g,kS _ _⟩
 go_enter func77,ntmps77;go_wp2;go_loopw [10] (λi wr=>∃k:Nat,k<=n/\i=iZ k/\Ae (∀j,j<k->∀c,cs[j]?=K c->DH c)/\Ae (Ah w w wr)) (λi _=>n-(intOf i).toNat)
 case atStart=>exact⟨0,oM,rfl, λj Q=>oM,kS _ _⟩
 obtain⟨k,R,rfl,q,d⟩:=hrel;by_cases z:k<n
 . obtain⟨x,m⟩:∃x,cs[k]?=K x:=⟨_,an (by rw[a];exact z)⟩;rcases p.2 with⟨P,_⟩|⟨b,o,c,t,y⟩
   . omega
   simp only[i8,lB]at t;obtain⟨rfl,rfl⟩:=t;have f:=Rd.elem MC.dr y k x m 0 _ rfl;have A:=Rd.elem MC.dr y k x m 1 _ rfl;rw[<-d.cell (hC f),kJ]at f;rw[<-d.cell (hC A)]at A;have l:=Av m;have T:¬b=wr.heap.size:=mA (hC f);have S:b<wr.heap.size:=hC f;have C:Ae (Ah w w (Ac wr (Ak #[x.type,Ag .u32 x.word] 94))):=Ar d lR (Aq _ _);go_wp2_with fail;refine(Pv x.type x.word _ (E.o x (i7 l))).mono ?_;rintro e u ⟨⟨F,rfl,v⟩,G⟩;have r:=Av (Ar C lR G);cases F
   . (have g:Ae (¬Be cs):= λe=>absurd (v.2 (e.2 k (by rw[a];exact z) x l)) mY);go_wp2;go_ret;exact⟨.no g,r⟩
   have B:Ae (DH x):=v.1 rfl;go_wp2;go_roundw;(case rel=>exact⟨k+1,oM,by go_num,CO l B q,r⟩);exact oI
 have I:n=k:=oM;subst I;have D:Ae (Be cs):=⟨by rw[a];omega,by rw[a];exact q⟩;go_wp2;go_ret;exact⟨.gY D,d⟩
theorem JP{q:Prop}(h:q:=by generalize f.gw.length=n1 at*;generalize f.gG.length=n2 at*;generalize f.eC.length=n3 at*;go_enter func97,ntmps97;go_wp2;go_ret;exact⟨.no HN,HB⟩):q:=h
theorem Mu(v:VF)(f:MF)(w:Y)(s:f.small)(h:DE w v f):
 Ai Ap 97 #[Am #[v.p,f.gy,v.l,v.c]] w λe A=>AJ e (CE f)/\Ah w w A:=by
 have b:=Av (d5 h s);obtain⟨t,c1,n⟩:=h.1.dk;obtain⟨x,c2,q⟩:=h.2.1.dk;obtain⟨y,c3,r⟩:=h.2.2.dk;obtain⟨S,Q,P⟩:=v;obtain⟨L,N,O⟩:=s;simp only[]at n q r;subst n q r;have HB:Ae (Ah w w (Ac w (Ak #[Z t f.gw c1,f.gy,Z x f.gG c2,Z y f.eC c3] 70))):=Aq _ _;by_cases B:8<f.gw.length
 . (have HN:Ae (¬CE f):= λe=>absurd e.par oM);exact JP
 by_cases D:32<f.gw.length+ ↑f.gG
 . (have HN:Ae (¬CE f):= λe=>absurd e.loc oM);exact JP
 by_cases d:f.eC.length=0
 . (have HN:Ae (¬CE f):= λe=>e.iU d);generalize f.gw.length=n1 at*;generalize f.gG.length=n2 at*;generalize f.eC.length=n3 at*;subst d;go_enter func97,ntmps97;go_wp2;go_ret;exact⟨.no HN,HB⟩
 by_cases G:1024<f.eC.length
 . (have HN:Ae (¬CE f):= λe=>absurd e.jc oM);exact JP
 have C:¬(8:Int)<(f.gw:Int):=oM;have E:¬(32:Int)<(f.gw:Int)+(f.gG:Int):=oM;have F:((f.eC:Int)==0)=false:=by simpa using d
 have H:¬(1024:Int)<(f.eC:Int):=oM;have a:Ae (f.gw.length<=8/\f.gw.length+ ↑f.gG<=32/\¬f.eC.length=0/\f.eC.length<=1024):=⟨oM,oM,d,oM⟩
 go_enter func97,ntmps97;go_wp2_with fail;refine(EQ _ f.gw _ b.2.1 (b.1.1.a7 HB lR)).mono ?_;rintro e u ⟨rfl,rfl⟩;cases t1:f.gw.all Ec
 . (have HN:Ae (¬CE f):= λe=>by have:=e.pt;simp[t1]at this);go_wp2;go_ret;exact⟨.no HN,HB⟩
 have k:=Av t1;go_wp2_with fail;refine(EQ _ f.gG _ b.2.2.1 (b.1.2.1.a7 HB lR)).mono ?_;rintro e u ⟨rfl,rfl⟩;cases t1:f.gG.all Ec
 . (have HN:Ae (¬CE f):= λe=>by have:=e.lt;simp[t1]at this);go_wp2;go_ret;exact⟨.no HN,HB⟩
 have m:=Av t1;generalize z:f.gy=R at*;have g:=Av z;by_cases j:R=0
 . subst j;have i:Ae (CE f):=⟨a.1,a.2.1,k,m,.inl g,a.2.2.1,a.2.2.2⟩;go_wp2;go_ret;exact⟨.gY i,HB⟩
 have I:(R==0)=false:=by simpa using j
 go_wp2_with fail;refine(DT R _).mono ?_;rintro e u ⟨rfl,rfl⟩;cases t1:Ec R
 . (have HN:Ae (¬CE f):= λe=>by have:=e.gU;rw[g]at this;simp[j,t1]at this);go_wp2;go_ret;exact⟨.no HN,HB⟩
 have i:Ae (CE f):=⟨a.1,a.2.1,k,m,.inr (by rw[g];exact t1),a.2.2.1,a.2.2.2⟩;go_wp2;go_ret;exact⟨.gY i,HB⟩
end Go.Proofs.YtmalfecapdmdbaaGreat
