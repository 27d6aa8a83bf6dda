import Derived.Test.YtkgohaigebcgoaaGreatDoorLo7
import Derived.Test.YtkgohaigebcgoaaGreatDoorLo15
import Derived.Lib.AppendZerosOnto
import Derived.Lib.AppendZeros
import Derived.Laws.Append
namespace Go.Proofs.YtkgohaigebcgoaaGreatDoor
open Go.ChangeShapes Go.WideShapes Go.ChangeAt Go.RowKit Go.Proofs.Tryz
set_option linter.unusedVariables false
open Go.Value renaming slice → Z,agg → An,int → Ag,tuple → Ap
open Option renaming some → K,none → M
open Go renaming World → Y,Calls → Ai,Value → J,TypeId → Aj
open Go.RowKit renaming Hid → Ae,Below → Ah
open Go.Obj renaming cells → Ak
open Go.Proofs.Tryz renaming prog → Aq
open Go.World renaming alloc → Ac,setCell → Aa,ownsRow → Ab
open List renaming flatMap → Ad
open Go.IntKind renaming i64 → Af
open Go.Ending renaming returned → Am
set_option maxHeartbeats 4000000
set_option maxRecDepth 100000
variable {u w:Y}{B f j v i top q gf cl:Nat}{t c n b op a c':Int}{d:Bool}{X:VS}{C:List (J×List MC)}{F:List (MG×J)}{y:MG×J}{r:J×List MC}{s:J}
theorem Nj(v:VP)(p:MP)(w:Y)(hs:p.small)(hw:p.wf)(hp:A7 p.az)(au:Bz p.aB)(h:ET w v p)(aq:EY w v.r p.az):
 Ai Aq 123 #[An #[v.r,v.k,v.f,v.t]] w λe w'=>AM e (DY p)/\Ah w w w':=by
 obtain⟨xs,ys,I⟩:=Pg.of hs hw h;obtain⟨vr,vk,vf,vt⟩:=v;simp only[]at I;obtain⟨r3,c3,e3⟩:=I.fr.aP;have hm:=hs.aB;subst e3;have HH:=Aw (fd hp (fd au aq));clear hs hw h hp au aq;obtain⟨C,y,aJ⟩:=I.rr.aP;obtain⟨D,A,aI⟩:∃a c,vk=Z a p.b8 c:=I.rd.b8.aP;obtain⟨E,B,aK⟩:∃a c,vt=Z a p.bO c:=I.rd.bO.aP;subst aJ aI aK;have u:Ae _:=I;clear I;have n:Ae _:=OQ.of w (Z C p.az y) (Z D p.b8 A) (Z r3 p.aB c3) (Z E p.bO B) 40;generalize hM:p.aB.length=m at*;have L:=Aw hM;clear hM;have u:=Aw u;go_enter func123,ntmps123;go_wp2;go_loopw [11] (λi wr=>∃k:Nat,k<=m/\i=iZ k/\Ae (∀j,j<k->∀f,p.aB[j]?=K f->IM p f)/\Ae (OQ w wr (Z C p.az.length y) (Z D p.b8.length A) (Z r3 m c3) (Z E p.bO.length B))) (λi _=>m-(intOf i).toNat)
 case atStart=>exact⟨0,oM,rfl, λj S=>oM,n⟩
 clear n;obtain⟨k,hk,rfl,HT,n⟩:=hrel;by_cases aa:k<m
 . obtain⟨⟨f,v⟩,d⟩:∃x,ys[k]?=K x:=⟨_,an (by rw[u.fl,L];exact aa)⟩;have l:=Ga u.fm d;have s:=Aw (fd (u.fe _ (hC d)) (fd (u.small.func _ (hC l)) (fd l (fd (u.wf.aB _ (hC l)) (HH.2.1.2.2.1 k (by rw[L];exact aa) _ l)))));clear l;rcases u.fr.2 with⟨e0,_⟩|⟨b,o,c,l,Q⟩
   . rw[L]at e0;omega
   rw[L]at l;simp only[i8,kW]at l;obtain⟨rfl,rfl⟩:=l;have i0:=Rd.elem AK Q k _ d 0 _ rfl;have T:=Rd.elem AK Q k _ d 1 _ rfl;have U:=Rd.elem AK Q k _ d 2 _ rfl;have V:=Rd.elem AK Q k _ d 3 _ rfl;rw[<-n.cq.cell (i7 i0),jV]at i0;rw[<-n.cq.cell (i7 T)]at T;rw[<-n.cq.cell (i7 U)]at U;rw[<-n.cq.cell (i7 V)]at V;clear Q d;simp only[]at i0 T U V;obtain⟨F,G,ep⟩:=s.1.1.aP;obtain⟨al,cl,el⟩:=s.1.2.1.aP;obtain⟨H,cc,ec⟩:=s.1.2.2.aP;obtain⟨vp,vl,vc⟩:=v;simp only[]at ep el ec i0 T U V;subst ep el ec;obtain⟨p0,p1,p2,p3⟩:=n.prog;have nb:¬b=wr.heap.size:=lL (i7 i0);have mb:b<wr.heap.size:=i7 i0;have np:¬(w:Nat)=wr.heap.size:=lL n.prog.lt;have mp:(w:Nat)<wr.heap.size:=n.prog.lt;have hz:=s.2.1.2.2;have g:Ae (OQ w (Ac (Ac wr (Ak #[Z F f.aD G,f.cu,Z al f.a7 cl,Z H f.aU cc] 34)) (Ak #[(Z C p.az y),(Z D p.b8 A),sO b o m c3,(Z E p.bO B),Z F f.aD G,f.cu,Z al f.a7 cl,Z H f.aU cc] 109)) (Z C p.az y) (Z D p.b8 A) (sO b o m c3) (Z E p.bO B)/\P7 (Ac (Ac wr (Ak #[Z F f.aD G,f.cu,Z al f.a7 cl,Z H f.aU cc] 34)) (Ak #[(Z C p.az y),(Z D p.b8 A),sO b o m c3,(Z E p.bO B),Z F f.aD G,f.cu,Z al f.a7 cl,Z H f.aU cc] 109)) ((wr:Nat)+1) (Z C p.az y) (Z D p.b8 A) (sO b o m c3) (Z E p.bO B) (Z F f.aD G) f.cu (Z al f.a7 cl) (Z H f.aU cc)):=by refine⟨n.av (Ar (Al _ _) lR (Al _ _)),?_⟩;have:=P7.new (Ac wr (Ak #[Z F f.aD G,f.cu,Z al f.a7 cl,Z H f.aU cc] 34)) (Z C p.az y) (Z D p.b8 A) (sO b o m c3) (Z E p.bO B) (Z F f.aD G) f.cu (Z al f.a7 cl) (Z H f.aU cc) 109;simpa using this
   go_wp2;clear p0 p1 p2 p3 i0 T U V nb mb np mp;generalize hZ:f.aU.length=z at*;have P:=Aw hZ;clear hZ;generalize wr.heap.size+1=SB at g⊢;go_loopw [21] (λi aE=>∃q:Nat,q<=z/\i=iZ q/\Ae (∀j,j<q->∀x,f.aU[j]?=K x->AW p f x)/\Ae (OQ w aE (Z C p.az y) (Z D p.b8 A) (sO b o m c3) (Z E p.bO B)/\P7 aE SB (Z C p.az y) (Z D p.b8 A) (sO b o m c3) (Z E p.bO B) (Z F f.aD G) f.cu (Z al f.a7 cl) (Z H z cc))) (λi _=>z-(intOf i).toNat)
   (case atStart=>exact⟨0,oM,rfl, λj S=>oM,g⟩);clear g;obtain⟨q,hq,rfl,ai,g⟩:=hrel;by_cases ax:q<z
   . obtain⟨x,d⟩:∃x,f.aU[q]?=K x:=⟨_,an (by rw[P];exact ax)⟩;have aA:=s.2.2.2.1.aU x (hC d);rcases s.1.2.2.2 with⟨e0,_⟩|⟨b',o',c',l,R⟩
     . rw[P]at e0;omega
     rw[P]at l;simp only[i8,kW]at l;obtain⟨rfl,rfl⟩:=l;have N:=Rd.elem MI.bW R q x d 0 _ rfl;have j1:=Rd.elem MI.bW R q x d 1 _ rfl;have j2:=Rd.elem MI.bW R q x d 2 _ rfl;have j3:=Rd.elem MI.bW R q x d 3 _ rfl;rw[<-g.1.cq.cell (i7 N),jV]at N;rw[<-g.1.cq.cell (i7 j1)]at j1;rw[<-g.1.cq.cell (i7 j2)]at j2;rw[<-g.1.cq.cell (i7 j3)]at j3;have O:=Aw (fd d aA);clear R d aA;obtain⟨xo,xa,xb,xc⟩:=x;simp only[]at N j1 j2 j3;obtain⟨s0,s1,s2,s3,s4,s5,s6,s7⟩:=g.2;have nb:¬b'=wr.heap.size:=lL (i7 N);have mb:b'<wr.heap.size:=i7 N;have np:¬SB=wr.heap.size:=lL g.2.lt;have mp:SB<wr.heap.size:=g.2.lt;go_wp2_with fail;have bA:=Al wr (Ak #[xo,xa,xb,xc] 25);have W:=Ar g.1.cq lR bA;refine(UT ⟨(Z C p.az y),(Z D p.b8 A),sO b o m c3,(Z E p.bO B)⟩ p ⟨Z F f.aD G,Z al f.a7 cl,sO b' o' z cc⟩ f xo xa xb xc _ u.small HH.1 s.2.2.2.2 s.2.1 O.2.2.1 O.2.2.2.1 O.2.2.2.2 (u.rd.av W lR) (HH.2.2.av W lR) (s.1.av W lR)).mono ?_;rintro e u4 ⟨⟨b4,rfl,X⟩,aj⟩;have bU:=Ar bA lR aj;have ae:=Aw (fd (g.1.av bU) (g.2.av bU));clear bA W aj bU g N j1 j2 j3 s0 s1 s2 s3 s4 s5 s6 s7 nb mb np mp;cases b4
     . (have HN:Ae (¬DY p):= λe=>by have:=e k (by rw[L];exact aa) f s.2.2.1 q (by rw[P];exact ax) _ O.1;simp[this]at X);clear X;go_wp2;go_ret;exact⟨.no HN,ae.1.cq⟩
     . have aH:Ae (AW p f ⟨xo,xa,xb,xc⟩):=X.1 rfl;clear X;go_wp2;go_roundw;(case rel=>exact⟨q+1,oM,by go_num,GH O.1 aH ai,ae⟩);exact oI
   have aO:z=q:=oM;subst aO;(have aG:Ae (IM p f):= λj S x d=>ai.o j (by rw[<-P];exact S) x d);go_wp2;go_roundw;(case rel=>exact⟨k+1,oM,by go_num,GH s.2.2.1 aG HT,g.1⟩);exact oI
 have aM:m=k:=oM;subst aM;have aF:Ae (DY p):= λj S f hf=>HT.o j (by rw[<-L];exact S) f hf
 go_wp2;go_ret;exact⟨.fk aF,n.cq⟩
def BP(v:J):Prop:=v=sN\/∃ad n c,v=Z (K ad) n c
theorem Oy(x y:MT)(w:Y):
 Ai Aq 161 #[An #[x.func,x.head,x.eI,Ag .u32 x.init],An #[y.func,y.head,y.eI,Ag .u32 y.init]] w λe b=>AM e (NR x y)/\Ah w w b:=by
 have a:Ae (Ah w w (Ac (Ac w (Ak #[x.func,x.head,x.eI,Ag .u32 x.init] 37)) (Ak #[y.func,y.head,y.eI,Ag .u32 y.init] 37))):=Ar (Al _ _) lR (Al _ _);go_enter func161,ntmps161;go_wp2;all_goals(go_ret;refine⟨AM.of ?_,by first|exact a.o|(rw[‹x.func=y.func›]at a;exact a)⟩;go_light;unfold NR;simp_all<;>omega)
theorem AB.iW{g:VS}{K:List MC}{j:J}(h:AB u B X C K F)(i:BF u f t d c n g j):¬Dt X C F f:=by
 obtain⟨l,a,_⟩:=i.eP;rintro(e|e|e|⟨r,b,e⟩|⟨r,b,e⟩)
 . exact Bn h.cells a dC _ e rfl
 . exact Bn (h.eT.own (X.k,K) sP) a dC _ e rfl
 . exact Bn h.dk a dC _ e rfl
 . exact Bn (h.eT.own r (by simp only[jL];exact .inl (.inl b))) a dC _ e rfl
 exact Bn (h.eT.own r (by simp only[jL];exact .inr b)) a dC _ e rfl
theorem Bp.cell{R:Nat->Prop}{b:Y}(h:Bp R u b){ad:Addr}{v:J}(a:u ad=K v)(c:¬R ad.block):b ad=K v:=by rw[nG (h.block _ (i7 a) c)];exact a
theorem Ki{g:Nat}{e:Array J}{ty:Aj}(a:Ay u g e ty)(b:J){d:J}(f:u ⟨g,i+1,M⟩=K d):(Aa u ⟨g,i,M⟩ b) ⟨g,i+1,M⟩=K d/\(Aa u ⟨g,i,M⟩ b).frozen? ⟨g,i+1,M⟩=false/\u.frozen? ⟨g,i,M⟩=false:=by have c:=a.set i b;refine⟨?_,c.frozen _,a.frozen _⟩;rw[c.cell,Array.getElem?_setIfInBounds_ne oM,<-a.cell];exact f
theorem Dt.loc(b:F[top]?=K y){g:MG}(h:Dt X C (F.set top (g,y.2)) j):Dt X C F j:=by
 rcases h with e|e|e|e|⟨r,a,e⟩
 . exact .inl e
 . exact .inr (.inl e)
 . exact .inr (.inr (.inl e))
 . exact .inr (.inr (.inr (.inl e)))
 rw[Gw]at a;rcases lP a with a|a
 . exact .inr (.inr (.inr (.inr ⟨r,a,e⟩)))
 exact .inr (.inr (.inr (.inr ⟨_,hC (BE b),by rw[a]at e;exact e⟩)))
theorem Dt.cel(b:C[q]?=K r){c:List MC}(h:Dt X (C.set q (r.1,c)) F j):Dt X C F j:=by
 rcases h with e|e|e|⟨x,a,e⟩|e
 . exact .inl e
 . exact .inr (.inl e)
 . exact .inr (.inr (.inl e))
 . rcases lP a with a|a
   . exact .inr (.inr (.inr (.inl ⟨x,a,e⟩)))
   exact .inr (.inr (.inr (.inl ⟨r,hC b,by rw[a]at e;exact e⟩)))
 exact .inr (.inr (.inr (.inr e)))
theorem AH.io{m:Nat}{K:List MC}{r A:Nat}{p:VS}{k:List (J×List MC)}{l:List (MG×J)}(h:AH w u B m top t d c n X C K F s r A gf op a b c' p k l){N:MC}(i:F[top]?=some y)(e:y.2=Z f v cl)(I:y.1.a7[q]?=some N)(z:MC):AH w (Aa (Aa u ⟨f,q*2,M⟩ z.type) ⟨f,q*2+1,M⟩ (Ag .u32 z.word)) B m top t d c n X C K (F.set top ({y.1 with a7:=y.1.a7.set q z},y.2)) s r A gf op a b c' p k l:=by
 have L:F[top]?=some (y.1,Z f v cl):=by rw[i,<-e]
 obtain⟨x,D⟩:=h.own.io (jN h.hB h.eX.size) L I z;rw[<-e]at x;have g:=h.own.eT.own (y.2,y.1.a7) (by simp only[jL];exact .inr (hC (BE i)));simp only[]at g;rw[e]at g;have H:=CM g;subst H;obtain⟨P,O,E⟩:=Dz g;exact h.rows D x (.inr (.inr (.inr (.inr ⟨_,hC (BE i),by simp only[];rw[e];rfl⟩)))) E dC (λj G=>G.loc i)
theorem AH.fH{p:Nat}{K:List MC}{x:J}{D:Nat}{s:VS}{l:List (J×List MC)}{m:List (MG×J)}(h:AH w u B p top t d c n X C K F x v D gf op a b c' s l m){y:Nat}{O:MC}(g:C[q]?=some r)(e:r.1=Z f y cl)(H:r.2[i]?=some O)(z:MC):AH w (Aa (Aa u ⟨f,i*2,M⟩ z.type) ⟨f,i*2+1,M⟩ (Ag .u32 z.word)) B p top t d c n X (C.set q (r.1,r.2.set i z)) K F x v D gf op a b c' s l m:=by
 have N:C[q]?=some (Z f y cl,r.2):=by rw[g,<-e]
 obtain⟨A,E⟩:=h.own.fH (jN h.hB h.eX.size) N H z;rw[<-e]at A;have k:=h.own.eT.own r (by simp only[jL];exact .inl (.inl (hC g)));rw[e]at k;have L:=CM k;subst L;obtain⟨Q,P,G⟩:=Dz k;exact h.rows E A (.inr (.inr (.inr (.inl ⟨_,hC g,by rw[e];rfl⟩)))) G dC (λj I=>I.cel g)
theorem Pa(B i top:Nat)(t:Int)(d:Bool)(c n:Int)(X:VS)(C:List (J×List MC))(K:List MC)(F:List (MG×J))(l:J)(j k gf c3:Nat)(y:MG×J)(op a b c':Int)(w:Y)(Q:B<= ↑w)(h:AB w B X C K F)(I:BF w i t d c n X l)(R: ↑F=top+1)(ae:top<=1048576)(L:F[top]?=some y)(T:X.f=Z gf (top+1) c3)(S:K.length<=1048576)(q m gk ok ck:Nat)(z:MC)(V:a=q)(hq:q<m)(aj:m<=1048576)(G:w ⟨j,k+1,M⟩=some (Z (some ⟨gk,ok,M⟩) m ck))(N:w ⟨gk,ok+q*2,M⟩=some ↑z.type)(O:w ⟨gk,ok+q*2+1,M⟩=some (Ag .u32 z.word)):
 Ai Aq 96 #[.pointer i,An #[.pointer (some ⟨j,k,M⟩),.pointer (some ⟨gf,top*4,M⟩)],An #[op,a,b,c']] w (Cd w B i t d c n C (K++[z]) F l X C F):=by
 subst V;have s:Ae (AH w (Ac (Ac w (Ak #[.pointer (some ⟨j,k,M⟩),.pointer (some ⟨gf,top*4,M⟩)] 143)) (Ak #[op,q,b,c'] 25)) B i top t d c n X C K F l j k gf op q b c' X C F):=AH.of j k gf op q b c' Q h I;have H:Ae (AB w B X C K F/\ ↑F=top+1/\F[top]?=some y):=⟨h,R,L⟩
 clear h I L;go_enter func96,ntmps96;go_upto_region 1 with fail
 refine Av (λu=>Ae (AH w u B i top t d c n X C K F l j k gf op q b c' X C F)/\Ah w w u) ⟨s,Ar (Al _ _) lR (Al _ _)⟩ ?_
 rintro U ⟨E1,p⟩;clear s;have f0:=E1.fb.cell 0;have r:=E1.ib.cell 1;simp only[i5,f8,i6]at f0 r;have g:=At U;have aa:=Au g f0;have au:=Au g r;have ai:=Au g (Au p G);have ax:=Au g (Au p N);have aA:=Au g (Au p O);have aq:(q:Int)<(m:Int):=oM;clear f0 r G N O T;go_upto_region 1 with fail
 go_region_law (go_simp;go_at_call 150;refine(DA B i t d c n X C K F l z _ (jN E1.hB (E1.av g).eX.size) (E1.av g).own (E1.av g).mb S).mono ?_;rintro e u1 ⟨rfl,W,x,A,D,E⟩;have P:Ae (AH w u1 B i top t d c n ⟨X.c,W,X.f⟩ C (K++[z]) F l j k gf op q b c' X C F):=(E1.av g).push x A D E;clear x A D E);all_goals
  go_wp2_with fail;exact lD (v:=Ap #[]) kR rfl P.eY
theorem XJ(B i top:Nat)(t:Int)(d:Bool)(c n:Int)(X:VS)(C:List (J×List MC))(K:List MC)(F:List (MG×J))(l:J)(j m gf c3:Nat)(y:MG×J)(op a b c':Int)(w:Y)(hB:B<= ↑w)(h:AB w B X C K F)(S:BF w i t d c n X l)(hF: ↑F=top+1)(aA:top<=1048576)(T:F[top]?=some y)(ae:X.f=Z gf (top+1) c3)(hK:K.length<=1048576)(q p:Nat)(r:J×List MC)(z:MC)(ha:a=q)(hb:b=p)(s:C[q]?=some r)(D:r.2[p]?=some z)(ai:r.2.length<=1048576)(aE:C.length<=1048576):
 Ai Aq 99 #[.pointer i,An #[.pointer (some ⟨j,m,M⟩),.pointer (some ⟨gf,top*4,M⟩)],An #[op,a,b,c']] w (Cd w B i t d c n C (K++[z]) F l X C F):=by
 subst ha hb;have N:Ae (AH w (Ac (Ac w (Ak #[.pointer (some ⟨j,m,M⟩),.pointer (some ⟨gf,top*4,M⟩)] 143)) (Ak #[op,q,p,c'] 25)) B i top t d c n X C K F l j m gf op q p c' X C F):=AH.of j m gf op q p c' hB h S;have H:Ae (AB w B X C K F/\ ↑F=top+1/\F[top]?=some y):=⟨h,hF,T⟩
 clear h S T;go_enter func99,ntmps99;go_upto_region 1 with fail
 refine Av (λu=>Ae (AH w u B i top t d c n X C K F l j m gf op q p c' X C F)/\Ah w w u) ⟨N,Ar (Al _ _) lR (Al _ _)⟩ ?_
 rintro U ⟨E1,bU⟩;clear N;have G:=E1.ib.cell 1;have I:=E1.ib.cell 2;simp only[i5,f8,i6]at G I;have au:=(f7.1 s).1;have aq:=(f7.1 D).1;rcases Bi E1.own.cells with⟨_,e⟩|⟨gc,c1,x⟩
 . omega
 have E:r∈C++[(X.k,K)]++Bm F:=by simp only[jL];exact .inl (.inl (hC s))
 rcases Bi (E1.own.eT.own _ E)with⟨_,e⟩|⟨gl,cl,A⟩
 . omega
 have L:=E1.mb.at.2.2.2.2.1;rw[x]at L;have cc:=E1.own.iA x s;rw[A]at cc;obtain⟨V,W⟩:=E1.own.fG E A D;have aF:(q:Int)<(C:Int):=oM;have aj:(p:Int)<(r.2:Int):=oM;have HR:Ae (C[q]?=some r/\r.1=Z gl r.2 cl/\r.2[p]?=some z):=⟨s,A,D⟩
 have ax:Ae (X.c=Z gc C c1):=x;have g:=At U;have aG:=Au g G;have aH:=Au g I;have aK:=Au g L;have aa:=Au g cc;have aI:=Au g V;have aJ:=Au g W;generalize r.2.length=nr at aa aj ai;clear G I L cc V W ae E A D s x au aq;go_upto_region 1 with fail
 go_region_law (go_simp;go_at_call 150;refine(DA B i t d c n X C K F l z _ (jN E1.hB (E1.av g).eX.size) (E1.av g).own (E1.av g).mb hK).mono ?_;rintro e u1 ⟨rfl,k',O,P,Q,R⟩;have E2:Ae (AH w u1 B i top t d c n ⟨X.c,k',X.f⟩ C (K++[z]) F l j m gf op q p c' X C F):=(E1.av g).push O P Q R;clear O P Q R);all_goals
  go_wp2_with fail;exact lD (v:=Ap #[]) kR rfl E2.eY
def FZ(w:Y)(s:J)(fs:List MF):Prop:=∃ys:List (MF×VF),ys.map Prod.fst=fs/\Rd w 4 s fs (Ad DF ys)/\∀x∈ys,FH w x.2 x.1/\BP x.2.p/\BP x.2.l
theorem FZ.av{e:Y}{fs:List MF}(h:FZ w s fs)(c:Ah B w e)(b: ↑w<=B):FZ e s fs:=by obtain⟨ys,f,g,a⟩:=h;exact⟨ys,f,g.av c b, λx d=>⟨(a x d).1.av c b,(a x d).2⟩⟩
theorem Sp{p:MP}{fn:Nat}{f:MF}(h:p.aB[fn]?=K f)(e co j:Int):FX p ⟨fn,e,co,j⟩↔(0<=e/\e<(f.aU:Int))/\(0<=co/\co<((f.aD.length+ ↑f.a7:Nat):Int))/\(f.aD++f.a7)[co.toNat]?=K 3:=by
 constructor
 . rintro⟨g,d,k,b,c,a⟩;simp only[i9]at d b c a;rw[h]at d;obtain rfl:=jM d;unfold AJ at a;split at a
   . simp at a
   rename_i m;rw[jQ]at a;by_cases q:co.toNat<(f.aD++f.a7).length
   . rw[an q]at a⊢;refine⟨⟨b,c⟩,⟨oM,by rw[jI]at q;omega⟩,?_⟩;simpa using a
   rw[kO oM]at a;simp at a
 rintro⟨⟨b,c⟩,⟨a,l⟩,i⟩;refine⟨f,by simp only[i9];exact h,oS,b,c,?_⟩;unfold AJ;rw[jH oS,jQ,i];rfl
theorem Ev(v:VP)(p:MP)(D b co g:Int)(w:Y)(hs:p.small)(h:ET w v p)(aI:FZ w v.f p.aB):
 Ai Aq 160 #[An #[v.r,v.k,v.f,v.t],An #[D,b,co,Ag .u32 g]] w λe w'=>AM e (FX p ⟨D,b,co,g⟩)/\Ah w w w':=by
 obtain⟨vr,vk,vf,vt⟩:=v;obtain⟨ys,au,aj,ax⟩:=aI;simp only[]at aj;obtain⟨z,i,aE⟩:∃a c,vr=Z a p.az c:=by obtain⟨_,_,hq,_⟩:=h.az;exact hq.aP
 obtain⟨A,j,aF⟩:∃a c,vk=Z a p.b8 c:=h.b8.aP;obtain⟨B,l,aG⟩:∃a c,vt=Z a p.bO c:=h.bO.aP;subst aE aF aG;have aA:ys.length=p.aB.length:=by rw[<-au];simp
 obtain⟨a2,c2,e2⟩:=aj.aP;subst e2;have N:=Aw (fd aj (fd au (fd ax (fd hs.func aA))));have hm:=hs.aB;clear aj au ax aA hs h;generalize p.az.length=n at*;generalize p.b8.length=q at*;generalize p.bO.length=s at*;generalize hM:p.aB.length=m at*;have HL:=Aw hM;have G:Ae (Ah w w (Ac (Ac w (Ak #[Z z n i,Z A q j,Z a2 m c2,Z B s l] 40)) (Ak #[D,b,co,Ag .u32 g] 37))/\Kr (Ac (Ac w (Ak #[Z z n i,Z A q j,Z a2 m c2,Z B s l] 40)) (Ak #[D,b,co,Ag .u32 g] 37)) ((w:Nat)+1) D b co (Ag .u32 g)):=by refine⟨Ar (Al _ _) lR (Al _ _),?_⟩;have:=Kr.new (Ac w (Ak #[Z z n i,Z A q j,Z a2 m c2,Z B s l] 40)) D b co (Ag .u32 g) 37;simpa using this
 by_cases q0:0<=D/\D<(m:Int)
 . have ai:decide (0<=D/\D<(m:Int))=true:=decide_eq_true q0
   obtain⟨fn,rfl⟩:=jW q0.1;have aO:fn<m:=oM;clear q0;obtain⟨⟨f,v⟩,P⟩:∃y,ys[fn]?=K y:=⟨_,an (by rw[N.2.2.2.2];omega)⟩;have e1:=Ga N.2.1 P;have aq:=N.2.2.1 _ (hC P);have F:=Aw (fd aq.1 (fd aq.2.1 (fd aq.2.2 (fd (N.2.2.2.1 _ (hC e1)) e1))));rcases N.1.2 with⟨e0,_⟩|⟨d,C,c',e1,aa⟩
   . omega
   simp only[i8,kW]at e1;obtain⟨rfl,rfl⟩:=e1;have E:=Rd.elem AK aa fn _ P 0 _ rfl;have Q:=Rd.elem AK aa fn _ P 1 _ rfl;have R:=Rd.elem AK aa fn _ P 2 _ rfl;have S:=Rd.elem AK aa fn _ P 3 _ rfl;rw[jV]at E;clear aa P;simp only[]at E Q R S;obtain⟨I,L,ep⟩:=F.1.1.aP;obtain⟨al,cl,el⟩:=F.1.2.1.aP;obtain⟨H,cc,ec⟩:=F.1.2.2.aP;obtain⟨vp,vl,vc⟩:=v;simp only[]at ep el ec E Q R S;subst ep el ec;have k0:=(G.1.cell (i7 E)).trans E;have k1:=(G.1.cell (i7 Q)).trans Q;have k2:=(G.1.cell (i7 R)).trans R;have k3:=(G.1.cell (i7 S)).trans S;have nb:¬d=w.heap.size:=lL (i7 E);have aK:¬d= ↑w+1:=by have:=i7 E;simp only[]at this;omega
   have aM:¬d= ↑w+1+1:=by have:=i7 E;simp only[]at this;omega
   have mb:d<w.heap.size:=i7 E;go_enter func160,ntmps160;go_wp2_with fail;refine(A8 (fn:Int) (m:Int) _).mono ?_;rintro e u ⟨rfl,rfl⟩;rw[ai];go_wp2_with fail;have aH:(fn:Int)<(m:Int):=oM;have BX:Ah w w (Ac (Ac (Ac w (Ak #[Z z n i,Z A q j,sO d C m c2,Z B s l] 40)) (Ak #[fn,b,co,Ag .u32 g] 37)) (Ak #[sN,sN,sN,sN,sN,iZ 0,sN,sN] 109)).drew:=Ar (Ar G.1 lR (Al _ _)) lR (At _);have x0:=(BX.cell (i7 E)).trans E;have x1:=(BX.cell (i7 Q)).trans Q;have x2:=(BX.cell (i7 R)).trans R;have x3:=(BX.cell (i7 S)).trans S;go_region;have B1:Ae (Ah w w ((Ac (Ac (Ac w (Ak #[Z z n i,Z A q j,sO d C m c2,Z B s l] 40)) (Ak #[fn,b,co,Ag .u32 g] 37)) (Ak #[Z z n i,Z A q j,sO d C m c2,Z B s l,Z I f.aD L,f.cu,Z al f.a7 cl,Z H f.aU cc] 109)).drew)):=Ar (Ar G.1 lR (Al _ _)) lR (At _);have A1:Ae (Kr ((Ac (Ac (Ac w (Ak #[Z z n i,Z A q j,sO d C m c2,Z B s l] 40)) (Ak #[fn,b,co,Ag .u32 g] 37)) (Ak #[Z z n i,Z A q j,sO d C m c2,Z B s l,Z I f.aD L,f.cu,Z al f.a7 cl,Z H f.aU cc] 109)).drew) ((w:Nat)+1) fn b co (Ag .u32 g)):=(G.2.alloc _).av (At _);have A2:Ae (P7 ((Ac (Ac (Ac w (Ak #[Z z n i,Z A q j,sO d C m c2,Z B s l] 40)) (Ak #[fn,b,co,Ag .u32 g] 37)) (Ak #[Z z n i,Z A q j,sO d C m c2,Z B s l,Z I f.aD L,f.cu,Z al f.a7 cl,Z H f.aU cc] 109)).drew) ((w:Nat)+1+1) (Z z n i) (Z A q j) (sO d C m c2) (Z B s l) (Z I f.aD L) f.cu (Z al f.a7 cl) (Z H f.aU cc)):=by
    have:=(P7.new (Ac (Ac w (Ak #[Z z n i,Z A q j,sO d C m c2,Z B s l] 40)) (Ak #[fn,b,co,Ag .u32 g] 37)) (Z z n i) (Z A q j) (sO d C m c2) (Z B s l) (Z I f.aD L) f.cu (Z al f.a7 cl) (Z H f.aU cc) 109).av (At _);have aJ:(Ac (Ac w (Ak #[Z z n i,Z A q j,sO d C m c2,Z B s l] 40)) (Ak #[fn,b,co,Ag .u32 g] 37)).heap.size= ↑w+1+1:=sP
    rw[aJ]at this;exact this
   generalize (Ac (Ac (Ac w (Ak #[Z z n i,Z A q j,sO d C m c2,Z B s l] 40)) (Ak #[fn,b,co,Ag .u32 g] 37)) (Ak #[Z z n i,Z A q j,sO d C m c2,Z B s l,Z I f.aD L,f.cu,Z al f.a7 cl,Z H f.aU cc] 109)).drew=W1 at B1 A1 A2⊢;have O:=Aw (fd B1.o (fd A1.o A2.o));clear B1 A1 A2 G N E Q R S k0 k1 k2 k3 nb aK aM mb ai x0 x1 x2 x3 aH;have V:=Aw (Sp F.2.2.2.2 b co g);obtain⟨i0,i1,i2,i3⟩:=O.2.1;obtain⟨g0,g1,g2,g3,g4,g5,g6,g7⟩:=O.2.2;have aQ:=F.2.2.2.1.2.2;go_wp2_with fail;refine(A8 b (f.aU:Int) _).mono ?_;rintro e u ⟨rfl,rfl⟩;by_cases U:0<=b/\b<(f.aU:Int)
   . have hA:decide (0<=b/\b<(f.aU:Int))=true:=decide_eq_true U
     rw[hA];go_wp2_with fail;refine(GO (Z z n i) (Z A q j) (sO d C m c2) (Z B s l) ⟨Z I f.aD L,Z al f.a7 cl,Z H f.aU cc⟩ f co _ F.2.2.2.1 (F.1.av O.1 lR)).mono ?_;rintro e u ⟨⟨bh,rfl,ae⟩,T⟩;have X:=Aw (fd (Ar O.1 lR T) (fd (O.2.1.av T) (O.2.2.av T)));cases bh
     . (have W:Ae (¬FX p ⟨fn,b,co,g⟩):= λe=>absurd (ae.2 ⟨(V.1 e).2.1.1,by have:=(V.1 e).2.1.2;omega⟩) lF);clear ae U hA;go_wp2;go_ret;exact⟨.no W,X.1⟩
     have hl:Jg f co:=ae.1 rfl;obtain⟨k,rfl⟩:=jW hl.1;(have hk:k<(f.aD++f.a7).length:=by have:=hl.2;rw[jI];omega);obtain⟨x,hx⟩:∃x,(f.aD++f.a7)[k]?=K x:=⟨_,an hk⟩;(have HY:Ae ((x==3)=true↔FX p ⟨fn,b,k,g⟩):=by show _↔_;have h2:=hl.2;rw[V.o,i9,hx];simp[U];intro _;omega);have HX:=Aw hx;clear ae U hA hl hk hx V;obtain⟨i0,i1,i2,i3⟩:=X.2.1;obtain⟨g0,g1,g2,g3,g4,g5,g6,g7⟩:=X.2.2;go_wp2_with fail;refine(IC (Z z n i) (Z A q j) (sO d C m c2) (Z B s l) ⟨Z I f.aD L,Z al f.a7 cl,Z H f.aU cc⟩ f k x _ F.2.2.2.1 (F.1.av X.1 lR) HX).mono ?_;rintro e u' ⟨rfl,T⟩;have HE:=Aw (Ar X.1 lR T);clear T i0 i1 i2 i3 g0 g1 g2 g3 g4 g5 g6 g7;go_wp2;go_ret;exact⟨.of HY,HE⟩
   have hA:decide (0<=b/\b<(f.aU:Int))=false:=kj U
   (have W:Ae (¬FX p ⟨fn,b,co,g⟩):= λe=>U (V.1 e).1);rw[hA];go_wp2;go_ret;exact⟨.no W,O.1⟩
 have W:Ae (¬FX p ⟨D,b,co,g⟩):= λ⟨f,h1,h2,_⟩=>q0 ⟨h2,by have:=(f7.1 h1).1;simp only[]at this h2;rw[HL]at this;omega⟩
 have ai:decide (0<=D/\D<(m:Int))=false:=kj q0
 clear N;go_enter func160,ntmps160;go_wp2_with fail;refine(A8 D (m:Int) _).mono ?_;rintro e u ⟨rfl,rfl⟩;rw[ai];go_wp2;go_ret;exact⟨.no W,G.1⟩
theorem VH(w:Y)(a:Array J)(e:Aj)(G:Nat)(h:a.size=G)(b:G<=maxLen):(Ac w (Ak a e)).drew.ownsRow w e 1 (Z w 0 G) 0 []:=⟨rfl,.inr ⟨w,G,a,rfl,Nat.le_refl _,mY,ku _,b,oM,sP⟩⟩
theorem Q0(n:Nat)(w:Y)(m:n<=4194304):
 Ai Aq 145 #[Z M 0 0,n] w λe d=>∃v,e=Am v/\Ab d w 2 1 v 0 []/\Ah w w d:=by
 obtain⟨i0,h,j,k,c⟩:=km Cy;by_cases l:n=0
 . subst l;go_enter func145,ntmps145;go_wp2;go_ret;exact⟨_,rfl,kH _ _ _ _,jZ _ _⟩
 have p:(0:Int)<(n:Int):=oM;have i:(Builtin.firstCells i0.size 0 (Z M 0 0)).run Aq w.drew=.ok (([]:List J).toArray) w.drew:=run_firstCells_none w.drew i0.size 0 0 0;have b:∀ty,(Builtin.append_ #[27,3] ty #[Z M 0 0,n]).run Aq w=.ok (Z w (0+n) (grownCap w (0+n) 0 2)) (Ac w.drew (Ak (([]:List J).toArray++Builtin.zeroCells (Ag Af 0).cells n++Builtin.zeroCells (Ag Af 0).cells (grownCap w (0+n) 0 2-(0+n))) 2)):= λty=>
  Lib.run_append_grow_zeros w 27 3 ty 2 i0 (Ag Af 0) Af Af underlying27 underlying3 h j M 0 0 [] i n oM (by rw[k];omega) oM oM (by rw[c];omega) (growslice_fits oM (by rw[c];omega))
 have g:=grownCap_ge w (0+n) 0 2;have a:=grownCap_le_maxLen w (0+n) 0 2 oX;generalize grownCap w (0+n) 0 2=G at b g a;have f:Ae (G<=maxLen):=a;unfold maxLen at a;go_enter func145,ntmps145;go_wp2_with (at_builtin;refine Lib.wpList_append_run _ rfl _ _ _ _ rfl _ _ rfl rfl _ _ (b _) ?_);all_goals
  go_ret;exact⟨_,rfl,VH w _ _ G (by simp[Builtin.zeroCells];omega) f,Ar (Al _ _) lR (At _)⟩
end Go.Proofs.YtkgohaigebcgoaaGreatDoor
