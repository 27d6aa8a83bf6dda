import Derived.Test.YtkgohaigebcgoaaGreatDoorCh7
import Derived.Test.YtkgohaigebcgoaaGreatDoorCh15
import Derived.Lib.AppendZerosOnto
import Derived.Lib.AppendZeros
import Derived.Laws.Append
namespace Go.Proofs.YtkgohaigebcgoaaGreatDoor
open Go.ChangeShapes Go.WideShapes Go.ChangeAt Go.RowKit Go.Proofs.Tryz
set_option linter.unusedVariables false
open Go.Value renaming slice → Z,agg → An,int → Ag,tuple → Ap
open Option renaming some → K,none → M
open Go renaming World → Y,Calls → Ai,Value → J,TypeId → Aj
open Go.RowKit renaming Hid → Ae,Below → Ah
open Go.Obj renaming cells → Ak
open Go.Proofs.Tryz renaming prog → Aq
open Go.World renaming alloc → Ac,setCell → Aa,ownsRow → Ab
open List renaming flatMap → Ad
open Go.IntKind renaming i64 → Af
open Go.Ending renaming returned → Am
set_option maxHeartbeats 4000000
set_option maxRecDepth 100000
variable {u w:Y}{B f i top j q p E gf A cl:Nat}{t c n b op a c':Int}{d:Bool}{X:VS}{C l:List (J×List MC)}{F m:List (MG×J)}{v:J}{y:MG×J}{r:J×List MC}{P:MC}
theorem Nh(v:VP)(p:MP)(w:Y)(hs:p.small)(hw:p.wf)(hp:A7 p.az)(ax:Bu p.aC)(h:Eb w v p)(au:D8 w v.r p.az):
 Ai Aq 123 #[An #[v.r,v.k,v.f,v.t]] w λe w'=>AM e (DU p)/\Ah w w w':=by
 obtain⟨xs,ys,I⟩:=Pg.of hs hw h;obtain⟨vr,vk,vf,vt⟩:=v;simp only[]at I;obtain⟨r3,c3,e3⟩:=I.fr.aD;have hm:=hs.aC;subst e3;have HH:=Aw (lN hp (lN ax au));clear hs hw h hp ax au;obtain⟨C,y,aK⟩:=I.rr.aD;obtain⟨D,A,aJ⟩:∃a c,vk=Z a p.b8 c:=I.rd.b8.aD;obtain⟨E,B,aM⟩:∃a c,vt=Z a p.bO c:=I.rd.bO.aD;subst aK aJ aM;have u:Ae _:=I;clear I;have n:Ae _:=OL.of w (Z C p.az y) (Z D p.b8 A) (Z r3 p.aC c3) (Z E p.bO B) 40;generalize hM:p.aC.length=m at*;have N:=Aw hM;clear hM;have u:=Aw u;go_enter func123,ntmps123;go_wp2;go_loopw [11] (λi wr=>∃k:Nat,k<=m/\i=iZ k/\Ae (∀j,j<k->∀f,p.aC[j]?=K f->IE p f)/\Ae (OL w wr (Z C p.az.length y) (Z D p.b8.length A) (Z r3 m c3) (Z E p.bO.length B))) (λi _=>m-(intOf i).toNat)
 case atStart=>exact⟨0,oM,rfl, λj T=>oM,n⟩
 clear n;obtain⟨k,hk,rfl,HT,n⟩:=hrel;by_cases ae:k<m
 . obtain⟨⟨f,v⟩,d⟩:∃x,ys[k]?=K x:=⟨_,an (by rw[u.fl,N];exact ae)⟩;have l:=FU u.fm d;have s:=Aw (lN (u.fe _ (lP d)) (lN (u.small.func _ (lP l)) (lN l (lN (u.wf.aC _ (lP l)) (HH.2.1.2.2.1 k (by rw[N];exact ae) _ l)))));clear l;rcases u.fr.2 with⟨e0,_⟩|⟨b,o,c,l,R⟩
   . rw[N]at e0;omega
   rw[N]at l;simp only[lU,mj]at l;obtain⟨rfl,rfl⟩:=l;have L:=Rd.elem AK R k _ d 0 _ rfl;have U:=Rd.elem AK R k _ d 1 _ rfl;have V:=Rd.elem AK R k _ d 2 _ rfl;have W:=Rd.elem AK R k _ d 3 _ rfl;rw[<-n.cq.cell (lT L),mL]at L;rw[<-n.cq.cell (lT U)]at U;rw[<-n.cq.cell (lT V)]at V;rw[<-n.cq.cell (lT W)]at W;clear R d;simp only[]at L U V W;obtain⟨F,G,ep⟩:=s.1.1.aD;obtain⟨al,cl,el⟩:=s.1.2.1.aD;obtain⟨H,cc,ec⟩:=s.1.2.2.aD;obtain⟨vp,vl,vc⟩:=v;simp only[]at ep el ec L U V W;subst ep el ec;obtain⟨p0,p1,p2,p3⟩:=n.prog;have nb:¬b=wr.heap.size:=nZ (lT L);have mb:b<wr.heap.size:=lT L;have np:¬(w:Nat)=wr.heap.size:=nZ n.prog.lt;have mp:(w:Nat)<wr.heap.size:=n.prog.lt;have hz:=s.2.1.2.2;have g:Ae (OL w (Ac (Ac wr (Ak #[Z F f.aP G,f.cu,Z al f.aB cl,Z H f.aU cc] 34)) (Ak #[(Z C p.az y),(Z D p.b8 A),sO b o m c3,(Z E p.bO B),Z F f.aP G,f.cu,Z al f.aB cl,Z H f.aU cc] 109)) (Z C p.az y) (Z D p.b8 A) (sO b o m c3) (Z E p.bO B)/\PP (Ac (Ac wr (Ak #[Z F f.aP G,f.cu,Z al f.aB cl,Z H f.aU cc] 34)) (Ak #[(Z C p.az y),(Z D p.b8 A),sO b o m c3,(Z E p.bO B),Z F f.aP G,f.cu,Z al f.aB cl,Z H f.aU cc] 109)) ((wr:Nat)+1) (Z C p.az y) (Z D p.b8 A) (sO b o m c3) (Z E p.bO B) (Z F f.aP G) f.cu (Z al f.aB cl) (Z H f.aU cc)):=by refine⟨n.av (Ar (Al _ _) lR (Al _ _)),?_⟩;have:=PP.new (Ac wr (Ak #[Z F f.aP G,f.cu,Z al f.aB cl,Z H f.aU cc] 34)) (Z C p.az y) (Z D p.b8 A) (sO b o m c3) (Z E p.bO B) (Z F f.aP G) f.cu (Z al f.aB cl) (Z H f.aU cc) 109;simpa using this
   go_wp2;clear p0 p1 p2 p3 L U V W nb mb np mp;generalize hZ:f.aU.length=z at*;have Q:=Aw hZ;clear hZ;generalize wr.heap.size+1=SB at g⊢;go_loopw [21] (λi aF=>∃q:Nat,q<=z/\i=iZ q/\Ae (∀j,j<q->∀x,f.aU[j]?=K x->AV p f x)/\Ae (OL w aF (Z C p.az y) (Z D p.b8 A) (sO b o m c3) (Z E p.bO B)/\PP aF SB (Z C p.az y) (Z D p.b8 A) (sO b o m c3) (Z E p.bO B) (Z F f.aP G) f.cu (Z al f.aB cl) (Z H z cc))) (λi _=>z-(intOf i).toNat)
   (case atStart=>exact⟨0,oM,rfl, λj T=>oM,g⟩);clear g;obtain⟨q,hq,rfl,aj,g⟩:=hrel;by_cases aA:q<z
   . obtain⟨x,d⟩:∃x,f.aU[q]?=K x:=⟨_,an (by rw[Q];exact aA)⟩;have aE:=s.2.2.2.1.aU x (lP d);rcases s.1.2.2.2 with⟨e0,_⟩|⟨b',o',c',l,S⟩
     . rw[Q]at e0;omega
     rw[Q]at l;simp only[lU,mj]at l;obtain⟨rfl,rfl⟩:=l;have O:=Rd.elem MI.bW S q x d 0 _ rfl;have j1:=Rd.elem MI.bW S q x d 1 _ rfl;have j2:=Rd.elem MI.bW S q x d 2 _ rfl;have j3:=Rd.elem MI.bW S q x d 3 _ rfl;rw[<-g.1.cq.cell (lT O),mL]at O;rw[<-g.1.cq.cell (lT j1)]at j1;rw[<-g.1.cq.cell (lT j2)]at j2;rw[<-g.1.cq.cell (lT j3)]at j3;have P:=Aw (lN d aE);clear S d aE;obtain⟨xo,xa,xb,xc⟩:=x;simp only[]at O j1 j2 j3;obtain⟨s0,s1,s2,s3,s4,s5,s6,s7⟩:=g.2;have nb:¬b'=wr.heap.size:=nZ (lT O);have mb:b'<wr.heap.size:=lT O;have np:¬SB=wr.heap.size:=nZ g.2.lt;have mp:SB<wr.heap.size:=g.2.lt;go_wp2_with fail;have bA:=Al wr (Ak #[xo,xa,xb,xc] 25);have X:=Ar g.1.cq lR bA;refine(UO ⟨(Z C p.az y),(Z D p.b8 A),sO b o m c3,(Z E p.bO B)⟩ p ⟨Z F f.aP G,Z al f.aB cl,sO b' o' z cc⟩ f xo xa xb xc _ u.small HH.1 s.2.2.2.2 s.2.1 P.2.2.1 P.2.2.2.1 P.2.2.2.2 (u.rd.av X lR) (HH.2.2.av X lR) (s.1.av X lR)).mono ?_;rintro e u4 ⟨⟨b4,rfl,aa⟩,aq⟩;have bU:=Ar bA lR aq;have ai:=Aw (lN (g.1.av bU) (g.2.av bU));clear bA X aq bU g O j1 j2 j3 s0 s1 s2 s3 s4 s5 s6 s7 nb mb np mp;cases b4
     . (have HN:Ae (¬DU p):= λe=>by have:=e k (by rw[N];exact ae) f s.2.2.1 q (by rw[Q];exact aA) _ P.1;simp[this]at aa);clear aa;go_wp2;go_ret;exact⟨.no HN,ai.1.cq⟩
     . have aI:Ae (AV p f ⟨xo,xa,xb,xc⟩):=aa.1 rfl;clear aa;go_wp2;go_roundw;(case rel=>exact⟨q+1,oM,by go_num,Gx P.1 aI aj,ai⟩);exact oI
   have aQ:z=q:=oM;subst aQ;(have aH:Ae (IE p f):= λj T x d=>aj.o j (by rw[<-Q];exact T) x d);go_wp2;go_roundw;(case rel=>exact⟨k+1,oM,by go_num,Gx s.2.2.1 aH HT,g.1⟩);exact oI
 have aO:m=k:=oM;subst aO;have aG:Ae (DU p):= λj T f hf=>HT.o j (by rw[<-N];exact T) f hf
 go_wp2;go_ret;exact⟨.iQ aG,n.cq⟩
def BR(v:J):Prop:=v=sN\/∃ad n c,v=Z (K ad) n c
theorem Oq(x y:MT)(w:Y):
 Ai Aq 161 #[An #[x.func,x.head,x.dT,Ag .u32 x.init],An #[y.func,y.head,y.dT,Ag .u32 y.init]] w λe b=>AM e (NO x y)/\Ah w w b:=by
 have a:Ae (Ah w w (Ac (Ac w (Ak #[x.func,x.head,x.dT,Ag .u32 x.init] 37)) (Ak #[y.func,y.head,y.dT,Ag .u32 y.init] 37))):=Ar (Al _ _) lR (Al _ _);go_enter func161,ntmps161;go_wp2;all_goals(go_ret;refine⟨AM.of ?_,by first|exact a.o|(rw[‹x.func=y.func›]at a;exact a)⟩;go_light;unfold NO;simp_all<;>omega)
theorem AB.kI{g:VS}{K:List MC}{l:J}(h:AB u B X C K F)(j:BC u f t d c n g l):¬Dm X C F f:=by
 obtain⟨m,a,_⟩:=j.eI;rintro(e|e|e|⟨r,b,e⟩|⟨r,b,e⟩)
 . exact Bi h.cells a dC _ e rfl
 . exact Bi (h.fg.own (X.k,K) sP) a dC _ e rfl
 . exact Bi h.dk a dC _ e rfl
 . exact Bi (h.fg.own r (by simp only[mA];exact .inl (.inl b))) a dC _ e rfl
 exact Bi (h.fg.own r (by simp only[mA];exact .inr b)) a dC _ e rfl
theorem Bp.cell{R:Nat->Prop}{b:Y}(h:Bp R u b){ad:Addr}(a:u ad=K v)(c:¬R ad.block):b ad=K v:=by rw[pj (h.block _ (lT a) c)];exact a
theorem J9{g:Nat}{e:Array J}{ty:Aj}(a:Ay u g e ty)(b:J){d:J}(f:u ⟨g,i+1,M⟩=K d):(Aa u ⟨g,i,M⟩ b) ⟨g,i+1,M⟩=K d/\(Aa u ⟨g,i,M⟩ b).frozen? ⟨g,i+1,M⟩=false/\u.frozen? ⟨g,i,M⟩=false:=by have c:=a.set i b;refine⟨?_,c.frozen _,a.frozen _⟩;rw[c.cell,Array.getElem?_setIfInBounds_ne oM,<-a.cell];exact f
theorem Dm.loc(b:F[top]?=K y){g:MG}(h:Dm X C (F.set top (g,y.2)) j):Dm X C F j:=by
 rcases h with e|e|e|e|⟨r,a,e⟩
 . exact .inl e
 . exact .inr (.inl e)
 . exact .inr (.inr (.inl e))
 . exact .inr (.inr (.inr (.inl e)))
 rw[Gp]at a;rcases nw a with a|a
 . exact .inr (.inr (.inr (.inr ⟨r,a,e⟩)))
 exact .inr (.inr (.inr (.inr ⟨_,lP (BA b),by rw[a]at e;exact e⟩)))
theorem Dm.cel(b:C[q]?=K r){c:List MC}(h:Dm X (C.set q (r.1,c)) F j):Dm X C F j:=by
 rcases h with e|e|e|⟨x,a,e⟩|e
 . exact .inl e
 . exact .inr (.inl e)
 . exact .inr (.inr (.inl e))
 . rcases nw a with a|a
   . exact .inr (.inr (.inr (.inl ⟨x,a,e⟩)))
   exact .inr (.inr (.inr (.inl ⟨r,lP b,by rw[a]at e;exact e⟩)))
 exact .inr (.inr (.inr (.inr e)))
theorem AG.kx{K:List MC}{s:Nat}{r:VS}(h:AG w u B p top t d c n X C K F v s E gf op a b c' r l m)(k:F[top]?=some y)(e:y.2=Z f A cl)(N:y.1.aB[q]?=some P)(z:MC):AG w (Aa (Aa u ⟨f,q*2,M⟩ z.type) ⟨f,q*2+1,M⟩ (Ag .u32 z.word)) B p top t d c n X C K (F.set top ({y.1 with aB:=y.1.aB.set q z},y.2)) v s E gf op a b c' r l m:=by
 have O:F[top]?=some (y.1,Z f A cl):=by rw[k,<-e]
 obtain⟨D,G⟩:=h.own.kx (mC h.hB h.gv.size) O N z;rw[<-e]at D;have g:=h.own.fg.own (y.2,y.1.aB) (by simp only[mA];exact .inr (lP (BA k)));simp only[]at g;rw[e]at g;have L:=CM g;subst L;obtain⟨R,Q,H⟩:=Dv g;exact h.rows G D (.inr (.inr (.inr (.inr ⟨_,lP (BA k),by simp only[];rw[e];rfl⟩)))) H dC (λj I=>I.loc k)
theorem AG.jq{K:List MC}{y:J}{v:Nat}{s:VS}(h:AG w u B p top t d c n X C K F y v E gf op a b c' s l m)(g:C[q]?=some r)(e:r.1=Z f A cl)(I:r.2[i]?=some P)(z:MC):AG w (Aa (Aa u ⟨f,i*2,M⟩ z.type) ⟨f,i*2+1,M⟩ (Ag .u32 z.word)) B p top t d c n X (C.set q (r.1,r.2.set i z)) K F y v E gf op a b c' s l m:=by
 have O:C[q]?=some (Z f A cl,r.2):=by rw[g,<-e]
 obtain⟨D,G⟩:=h.own.jq (mC h.hB h.gv.size) O I z;rw[<-e]at D;have k:=h.own.fg.own r (by simp only[mA];exact .inl (.inl (lP g)));rw[e]at k;have N:=CM k;subst N;obtain⟨R,Q,H⟩:=Dv k;exact h.rows G D (.inr (.inr (.inr (.inl ⟨_,lP g,by rw[e];rfl⟩)))) H dC (λj L=>L.cel g)
theorem O7(B k top:Nat)(t:Int)(d:Bool)(c n:Int)(X:VS)(C:List (J×List MC))(K:List MC)(F:List (MG×J))(p:J)(l m gf c3:Nat)(y:MG×J)(op a b c':Int)(w:Y)(T:B<= ↑w)(h:AB w B X C K F)(O:BC w k t d c n X p)(V: ↑F=top+1)(ai:top<=1048576)(P:F[top]?=some y)(aa:X.f=Z gf (top+1) c3)(W:K.length<=1048576)(q r gk ok ck:Nat)(z:MC)(ha:a=q)(hq:q<r)(aq:r<=1048576)(N:w ⟨l,m+1,M⟩=some (Z (some ⟨gk,ok,M⟩) r ck))(Q:w ⟨gk,ok+q*2,M⟩=some ↑z.type)(R:w ⟨gk,ok+q*2+1,M⟩=some (Ag .u32 z.word)):
 Ai Aq 96 #[.pointer k,An #[.pointer (some ⟨l,m,M⟩),.pointer (some ⟨gf,top*4,M⟩)],An #[op,a,b,c']] w (B4 w B k t d c n C (K++[z]) F p X C F):=by
 subst ha;have D:Ae (AG w (Ac (Ac w (Ak #[.pointer (some ⟨l,m,M⟩),.pointer (some ⟨gf,top*4,M⟩)] 143)) (Ak #[op,q,b,c'] 25)) B k top t d c n X C K F p l m gf op q b c' X C F):=AG.of l m gf op q b c' T h O;have H:Ae (AB w B X C K F/\ ↑F=top+1/\F[top]?=some y):=⟨h,V,P⟩
 clear h O P;go_enter func96,ntmps96;go_upto_region 1 with fail
 refine Av (λu=>Ae (AG w u B k top t d c n X C K F p l m gf op q b c' X C F)/\Ah w w u) ⟨D,Ar (Al _ _) lR (Al _ _)⟩ ?_
 rintro U ⟨j,s⟩;clear D;have f0:=j.fb.cell 0;have A:=j.ib.cell 1;simp only[lQ,lO,lS]at f0 A;have g:=As U;have ae:=Au g f0;have ax:=Au g A;have aj:=Au g (Au s N);have aA:=Au g (Au s Q);have aE:=Au g (Au s R);have au:(q:Int)<(r:Int):=oM;clear f0 A N Q R aa;go_upto_region 1 with fail
 go_region_law (go_simp;go_at_call 150;refine(Dw B k t d c n X C K F p z _ (mC j.hB (j.av g).gv.size) (j.av g).own (j.av g).mb W).mono ?_;rintro e u1 ⟨rfl,k',E,G,I,L⟩;have S:Ae (AG w u1 B k top t d c n ⟨X.c,k',X.f⟩ C (K++[z]) F p l m gf op q b c' X C F):=(j.av g).push E G I L;clear E G I L);all_goals
  go_wp2_with fail;exact nR (v:=Ap #[]) kR rfl S.ia
theorem Xq(B l top:Nat)(t:Int)(d:Bool)(c n:Int)(X:VS)(C:List (J×List MC))(K:List MC)(F:List (MG×J))(s:J)(m A gf c3:Nat)(y:MG×J)(op a b c':Int)(w:Y)(hB:B<= ↑w)(h:AB w B X C K F)(W:BC w l t d c n X s)(hF: ↑F=top+1)(aF:top<=1048576)(hy:F[top]?=some y)(aj:X.f=Z gf (top+1) c3)(hK:K.length<=1048576)(q p:Nat)(r:J×List MC)(z:MC)(ha:a=q)(hb:b=p)(D:C[q]?=some r)(I:r.2[p]?=some z)(aq:r.2.length<=1048576)(aG:C.length<=1048576):
 Ai Aq 99 #[.pointer l,An #[.pointer (some ⟨m,A,M⟩),.pointer (some ⟨gf,top*4,M⟩)],An #[op,a,b,c']] w (B4 w B l t d c n C (K++[z]) F s X C F):=by
 subst ha hb;have Q:Ae (AG w (Ac (Ac w (Ak #[.pointer (some ⟨m,A,M⟩),.pointer (some ⟨gf,top*4,M⟩)] 143)) (Ak #[op,q,p,c'] 25)) B l top t d c n X C K F s m A gf op q p c' X C F):=AG.of m A gf op q p c' hB h W;have H:Ae (AB w B X C K F/\ ↑F=top+1/\F[top]?=some y):=⟨h,hF,hy⟩
 clear h W hy;go_enter func99,ntmps99;go_upto_region 1 with fail
 refine Av (λu=>Ae (AG w u B l top t d c n X C K F s m A gf op q p c' X C F)/\Ah w w u) ⟨Q,Ar (Al _ _) lR (Al _ _)⟩ ?_
 rintro U ⟨g,bU⟩;clear Q;have N:=g.ib.cell 1;have O:=g.ib.cell 2;simp only[lQ,lO,lS]at N O;have aA:=(f7.1 D).1;have ax:=(f7.1 I).1;rcases Bf g.own.cells with⟨_,e⟩|⟨gc,c1,E⟩
 . omega
 have L:r∈C++[(X.k,K)]++Bh F:=by simp only[mA];exact .inl (.inl (lP D))
 rcases Bf (g.own.fg.own _ L)with⟨_,e⟩|⟨gl,cl,G⟩
 . omega
 have P:=g.mb.at.2.2.2.2.1;rw[E]at P;have cc:=g.own.kq E D;rw[G]at cc;obtain⟨aa,ae⟩:=g.own.jd L G I;have aH:(q:Int)<(C:Int):=oM;have au:(p:Int)<(r.2:Int):=oM;have HR:Ae (C[q]?=some r/\r.1=Z gl r.2 cl/\r.2[p]?=some z):=⟨D,G,I⟩
 have aE:Ae (X.c=Z gc C c1):=E;have j:=As U;have aI:=Au j N;have aJ:=Au j O;have aO:=Au j P;have ai:=Au j cc;have aK:=Au j aa;have aM:=Au j ae;generalize r.2.length=nr at ai au aq;clear N O P cc aa ae aj L G I D E aA ax;go_upto_region 1 with fail
 go_region_law (go_simp;go_at_call 150;refine(Dw B l t d c n X C K F s z _ (mC g.hB (g.av j).gv.size) (g.av j).own (g.av j).mb hK).mono ?_;rintro e u1 ⟨rfl,k',R,S,T,V⟩;have E2:Ae (AG w u1 B l top t d c n ⟨X.c,k',X.f⟩ C (K++[z]) F s m A gf op q p c' X C F):=(g.av j).push R S T V;clear R S T V);all_goals
  go_wp2_with fail;exact nR (v:=Ap #[]) kR rfl E2.ia
def EZ(w:Y)(s:J)(fs:List MF):Prop:=∃ys:List (MF×VF),ys.map Prod.fst=fs/\Rd w 4 s fs (Ad GH ys)/\∀x∈ys,FD w x.2 x.1/\BR x.2.p/\BR x.2.l
theorem EZ.av{e:Y}{s:J}{fs:List MF}(h:EZ w s fs)(c:Ah B w e)(b: ↑w<=B):EZ e s fs:=by obtain⟨ys,f,g,a⟩:=h;exact⟨ys,f,g.av c b, λx d=>⟨(a x d).1.av c b,(a x d).2⟩⟩
theorem Sh{p:MP}{fn:Nat}{f:MF}(h:p.aC[fn]?=K f)(e co k:Int):EQ p ⟨fn,e,co,k⟩↔(0<=e/\e<(f.aU:Int))/\(0<=co/\co<((f.aP.length+ ↑f.aB:Nat):Int))/\(f.aP++f.aB)[co.toNat]?=K 3:=by
 constructor
 . rintro⟨g,d,l,b,c,a⟩;simp only[lV]at d b c a;rw[h]at d;obtain rfl:=mD d;unfold AJ at a;split at a
   . simp at a
   rename_i n;rw[mI]at a;by_cases q:co.toNat<(f.aP++f.aB).length
   . rw[an q]at a⊢;refine⟨⟨b,c⟩,⟨oM,by rw[mB]at q;omega⟩,?_⟩;simpa using a
   rw[mc oM]at a;simp at a
 rintro⟨⟨b,c⟩,⟨a,m⟩,j⟩;refine⟨f,by simp only[lV];exact h,oS,b,c,?_⟩;unfold AJ;rw[lY oS,mI,j];rfl
theorem Eo(v:VP)(p:MP)(E b co g:Int)(w:Y)(hs:p.small)(h:Eb w v p)(aI:EZ w v.f p.aC):
 Ai Aq 160 #[An #[v.r,v.k,v.f,v.t],An #[E,b,co,Ag .u32 g]] w λe w'=>AM e (EQ p ⟨E,b,co,g⟩)/\Ah w w w':=by
 obtain⟨vr,vk,vf,vt⟩:=v;obtain⟨ys,au,aj,ax⟩:=aI;simp only[]at aj;obtain⟨A,j,aE⟩:∃a c,vr=Z a p.az c:=by obtain⟨_,_,hq,_⟩:=h.az;exact hq.aD
 obtain⟨B,l,aF⟩:∃a c,vk=Z a p.b8 c:=h.b8.aD;obtain⟨C,n,aG⟩:∃a c,vt=Z a p.bO c:=h.bO.aD;subst aE aF aG;have aA:ys.length=p.aC.length:=by rw[<-au];simp
 obtain⟨a2,c2,e2⟩:=aj.aD;subst e2;have O:=Aw (lN aj (lN au (lN ax (lN hs.func aA))));have hm:=hs.aC;clear aj au ax aA hs h;generalize p.az.length=q at*;generalize p.b8.length=s at*;generalize p.bO.length=z at*;generalize hM:p.aC.length=m at*;have HL:=Aw hM;have H:Ae (Ah w w (Ac (Ac w (Ak #[Z A q j,Z B s l,Z a2 m c2,Z C z n] 40)) (Ak #[E,b,co,Ag .u32 g] 37))/\Kg (Ac (Ac w (Ak #[Z A q j,Z B s l,Z a2 m c2,Z C z n] 40)) (Ak #[E,b,co,Ag .u32 g] 37)) ((w:Nat)+1) E b co (Ag .u32 g)):=by refine⟨Ar (Al _ _) lR (Al _ _),?_⟩;have:=Kg.new (Ac w (Ak #[Z A q j,Z B s l,Z a2 m c2,Z C z n] 40)) E b co (Ag .u32 g) 37;simpa using this
 by_cases q0:0<=E/\E<(m:Int)
 . have ai:decide (0<=E/\E<(m:Int))=true:=decide_eq_true q0
   obtain⟨fn,rfl⟩:=mJ q0.1;have aO:fn<m:=oM;clear q0;obtain⟨⟨f,v⟩,Q⟩:∃y,ys[fn]?=K y:=⟨_,an (by rw[O.2.2.2.2];omega)⟩;have e1:=FU O.2.1 Q;have aq:=O.2.2.1 _ (lP Q);have G:=Aw (lN aq.1 (lN aq.2.1 (lN aq.2.2 (lN (O.2.2.2.1 _ (lP e1)) e1))));rcases O.1.2 with⟨e0,_⟩|⟨d,D,c',e1,aa⟩
   . omega
   simp only[lU,mj]at e1;obtain⟨rfl,rfl⟩:=e1;have F:=Rd.elem AK aa fn _ Q 0 _ rfl;have R:=Rd.elem AK aa fn _ Q 1 _ rfl;have S:=Rd.elem AK aa fn _ Q 2 _ rfl;have T:=Rd.elem AK aa fn _ Q 3 _ rfl;rw[mL]at F;clear aa Q;simp only[]at F R S T;obtain⟨L,N,ep⟩:=G.1.1.aD;obtain⟨al,cl,el⟩:=G.1.2.1.aD;obtain⟨I,cc,ec⟩:=G.1.2.2.aD;obtain⟨vp,vl,vc⟩:=v;simp only[]at ep el ec F R S T;subst ep el ec;have k0:=(H.1.cell (lT F)).trans F;have k1:=(H.1.cell (lT R)).trans R;have k2:=(H.1.cell (lT S)).trans S;have k3:=(H.1.cell (lT T)).trans T;have nb:¬d=w.heap.size:=nZ (lT F);have aK:¬d= ↑w+1:=by have:=lT F;simp only[]at this;omega
   have aM:¬d= ↑w+1+1:=by have:=lT F;simp only[]at this;omega
   have mb:d<w.heap.size:=lT F;go_enter func160,ntmps160;go_wp2_with fail;refine(A6 (fn:Int) (m:Int) _).mono ?_;rintro e u ⟨rfl,rfl⟩;rw[ai];go_wp2_with fail;have aH:(fn:Int)<(m:Int):=oM;have BX:Ah w w (Ac (Ac (Ac w (Ak #[Z A q j,Z B s l,sO d D m c2,Z C z n] 40)) (Ak #[fn,b,co,Ag .u32 g] 37)) (Ak #[sN,sN,sN,sN,sN,iZ 0,sN,sN] 109)).drew:=Ar (Ar H.1 lR (Al _ _)) lR (As _);have x0:=(BX.cell (lT F)).trans F;have x1:=(BX.cell (lT R)).trans R;have x2:=(BX.cell (lT S)).trans S;have x3:=(BX.cell (lT T)).trans T;go_region;have B1:Ae (Ah w w ((Ac (Ac (Ac w (Ak #[Z A q j,Z B s l,sO d D m c2,Z C z n] 40)) (Ak #[fn,b,co,Ag .u32 g] 37)) (Ak #[Z A q j,Z B s l,sO d D m c2,Z C z n,Z L f.aP N,f.cu,Z al f.aB cl,Z I f.aU cc] 109)).drew)):=Ar (Ar H.1 lR (Al _ _)) lR (As _);have A1:Ae (Kg ((Ac (Ac (Ac w (Ak #[Z A q j,Z B s l,sO d D m c2,Z C z n] 40)) (Ak #[fn,b,co,Ag .u32 g] 37)) (Ak #[Z A q j,Z B s l,sO d D m c2,Z C z n,Z L f.aP N,f.cu,Z al f.aB cl,Z I f.aU cc] 109)).drew) ((w:Nat)+1) fn b co (Ag .u32 g)):=(H.2.alloc _).av (As _);have A2:Ae (PP ((Ac (Ac (Ac w (Ak #[Z A q j,Z B s l,sO d D m c2,Z C z n] 40)) (Ak #[fn,b,co,Ag .u32 g] 37)) (Ak #[Z A q j,Z B s l,sO d D m c2,Z C z n,Z L f.aP N,f.cu,Z al f.aB cl,Z I f.aU cc] 109)).drew) ((w:Nat)+1+1) (Z A q j) (Z B s l) (sO d D m c2) (Z C z n) (Z L f.aP N) f.cu (Z al f.aB cl) (Z I f.aU cc)):=by
    have:=(PP.new (Ac (Ac w (Ak #[Z A q j,Z B s l,sO d D m c2,Z C z n] 40)) (Ak #[fn,b,co,Ag .u32 g] 37)) (Z A q j) (Z B s l) (sO d D m c2) (Z C z n) (Z L f.aP N) f.cu (Z al f.aB cl) (Z I f.aU cc) 109).av (As _);have aJ:(Ac (Ac w (Ak #[Z A q j,Z B s l,sO d D m c2,Z C z n] 40)) (Ak #[fn,b,co,Ag .u32 g] 37)).heap.size= ↑w+1+1:=sP
    rw[aJ]at this;exact this
   generalize (Ac (Ac (Ac w (Ak #[Z A q j,Z B s l,sO d D m c2,Z C z n] 40)) (Ak #[fn,b,co,Ag .u32 g] 37)) (Ak #[Z A q j,Z B s l,sO d D m c2,Z C z n,Z L f.aP N,f.cu,Z al f.aB cl,Z I f.aU cc] 109)).drew=W1 at B1 A1 A2⊢;have P:=Aw (lN B1.o (lN A1.o A2.o));clear B1 A1 A2 H O F R S T k0 k1 k2 k3 nb aK aM mb ai x0 x1 x2 x3 aH;have W:=Aw (Sh G.2.2.2.2 b co g);obtain⟨i0,i1,i2,i3⟩:=P.2.1;obtain⟨g0,g1,g2,g3,g4,g5,g6,g7⟩:=P.2.2;have aQ:=G.2.2.2.1.2.2;go_wp2_with fail;refine(A6 b (f.aU:Int) _).mono ?_;rintro e u ⟨rfl,rfl⟩;by_cases V:0<=b/\b<(f.aU:Int)
   . have hA:decide (0<=b/\b<(f.aU:Int))=true:=decide_eq_true V
     rw[hA];go_wp2_with fail;refine(GJ (Z A q j) (Z B s l) (sO d D m c2) (Z C z n) ⟨Z L f.aP N,Z al f.aB cl,Z I f.aU cc⟩ f co _ G.2.2.2.1 (G.1.av P.1 lR)).mono ?_;rintro e u ⟨⟨bh,rfl,ae⟩,U⟩;have HQ:=Aw (lN (Ar P.1 lR U) (lN (P.2.1.av U) (P.2.2.av U)));cases bh
     . (have X:Ae (¬EQ p ⟨fn,b,co,g⟩):= λe=>absurd (ae.2 ⟨(W.1 e).2.1.1,by have:=(W.1 e).2.1.2;omega⟩) nU);clear ae V hA;go_wp2;go_ret;exact⟨.no X,HQ.1⟩
     have hl:Jd f co:=ae.1 rfl;obtain⟨k,rfl⟩:=mJ hl.1;(have hk:k<(f.aP++f.aB).length:=by have:=hl.2;rw[mB];omega);obtain⟨x,hx⟩:∃x,(f.aP++f.aB)[k]?=K x:=⟨_,an hk⟩;(have HY:Ae ((x==3)=true↔EQ p ⟨fn,b,k,g⟩):=by show _↔_;have h2:=hl.2;rw[W.o,lV,hx];simp[V];intro _;omega);have HX:=Aw hx;clear ae V hA hl hk hx W;obtain⟨i0,i1,i2,i3⟩:=HQ.2.1;obtain⟨g0,g1,g2,g3,g4,g5,g6,g7⟩:=HQ.2.2;go_wp2_with fail;refine(Iw (Z A q j) (Z B s l) (sO d D m c2) (Z C z n) ⟨Z L f.aP N,Z al f.aB cl,Z I f.aU cc⟩ f k x _ G.2.2.2.1 (G.1.av HQ.1 lR) HX).mono ?_;rintro e u' ⟨rfl,U⟩;have HE:=Aw (Ar HQ.1 lR U);clear U i0 i1 i2 i3 g0 g1 g2 g3 g4 g5 g6 g7;go_wp2;go_ret;exact⟨.of HY,HE⟩
   have hA:decide (0<=b/\b<(f.aU:Int))=false:=nC V
   (have X:Ae (¬EQ p ⟨fn,b,co,g⟩):= λe=>V (W.1 e).1);rw[hA];go_wp2;go_ret;exact⟨.no X,P.1⟩
 have X:Ae (¬EQ p ⟨E,b,co,g⟩):= λ⟨f,h1,h2,_⟩=>q0 ⟨h2,by have:=(f7.1 h1).1;simp only[]at this h2;rw[HL]at this;omega⟩
 have ai:decide (0<=E/\E<(m:Int))=false:=nC q0
 clear O;go_enter func160,ntmps160;go_wp2_with fail;refine(A6 E (m:Int) _).mono ?_;rintro e u ⟨rfl,rfl⟩;rw[ai];go_wp2;go_ret;exact⟨.no X,H.1⟩
theorem Vm(w:Y)(a:Array J)(e:Aj)(G:Nat)(h:a.size=G)(b:G<=maxLen):(Ac w (Ak a e)).drew.ownsRow w e 1 (Z w 0 G) 0 []:=⟨rfl,.inr ⟨w,G,a,rfl,Nat.le_refl _,pI,oC _,b,oM,sP⟩⟩
theorem QM(n:Nat)(w:Y)(q:n<=4194304):
 Ai Aq 145 #[Z M 0 0,n] w λe f=>∃v,e=Am v/\Ab f w 2 1 v 0 []/\Ah w w f:=by
 obtain⟨b,j,l,m,d⟩:=nE Ct;by_cases p:n=0
 . subst p;go_enter func145,ntmps145;go_wp2;go_ret;exact⟨_,rfl,mX _ _ _ _,mP _ _⟩
 have r:(0:Int)<(n:Int):=oM;have k:(Builtin.firstCells b.size 0 (Z M 0 0)).run Aq w.drew=.ok (([]:List J).toArray) w.drew:=run_firstCells_none w.drew b.size 0 0 0;have c:∀ty,(Builtin.append_ #[27,3] ty #[Z M 0 0,n]).run Aq w=.ok (Z w (0+n) (grownCap w (0+n) 0 2)) (Ac w.drew (Ak (([]:List J).toArray++Builtin.zeroCells (Ag Af 0).cells n++Builtin.zeroCells (Ag Af 0).cells (grownCap w (0+n) 0 2-(0+n))) 2)):= λty=>
  Lib.run_append_grow_zeros w 27 3 ty 2 b (Ag Af 0) Af Af underlying27 underlying3 j l M 0 0 [] k n oM (by rw[m];omega) oM oM (by rw[d];omega) (growslice_fits oM (by rw[d];omega))
 have h:=grownCap_ge w (0+n) 0 2;have a:=grownCap_le_maxLen w (0+n) 0 2 oX;generalize grownCap w (0+n) 0 2=G at c h a;have g:Ae (G<=maxLen):=a;unfold maxLen at a;go_enter func145,ntmps145;go_wp2_with (at_builtin;refine Lib.wpList_append_run _ rfl _ _ _ _ rfl _ _ rfl rfl _ _ (c _) ?_);all_goals
  go_ret;exact⟨_,rfl,Vm w _ _ G (by simp[Builtin.zeroCells];omega) g,Ar (Al _ _) lR (As _)⟩
end Go.Proofs.YtkgohaigebcgoaaGreatDoor
