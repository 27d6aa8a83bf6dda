import Derived.Test.YtmalfecapdmdbaaGreatHo5
import Derived.Test.YtmalfecapdmdbaaGreatHo7
namespace Go.Proofs.YtmalfecapdmdbaaGreat
open Go.ChangeShapes Go.WideShapes Go.ChangeAt Go.RowKit Go.Proofs.Tryz
set_option linter.unusedVariables false
open Go.Value renaming slice → Z,bool → An,int → Ag,tuple → Ao,agg → Am
open Option renaming some → K,none → M
open Go renaming Value → J,World → Y,Calls → Ai,TypeId → Aj
open Go.RowKit renaming Hid → Ae,Below → Ah
open Go.Proofs.Tryz renaming prog → Ap
open Go.IntKind renaming i64 → Af
open Go.Obj renaming cells → Ak
open Go.Ending renaming returned → Al
open Go.World renaming setCell → Aa,ownsRow → Ab,alloc → Ac
open List renaming flatMap → Ad
set_option maxHeartbeats 8000000
set_option maxRecDepth 100000
variable {V V' g s:J}{R S O l L B:List Nat}{P Q:Nat->Bool}{w u c i a U f e d:Y}{x:Nat}{t:Aj}{z:Int}
def Bj(fs:List MF):Prop:=¬fs.length=0/\fs.length<=32/\(∀j,j<fs.length->∀f,fs[j]?=K f->CE f)/\∀f,fs[0]?=K f->QS f
theorem Mv(s:J)(fs:List MF)(w:Y)(hL:fs.length<=1048576)(hs:∀f∈fs,f.small)(h:Jy w s fs):
 Ai Ap 78 #[s] w λe w'=>AJ e (Bj fs)/\Ah w.heap.size w w':=by
 obtain⟨xs,V,U,ao⟩:=h;have au:xs.length=fs.length:=by rw[<-V];simp
 have d:=Av (d5 U (d5 V (d5 ao (d5 hs au))));obtain⟨a1,c1,rfl⟩:=U.dk;generalize ae:fs.length=n at hL d;have z:=Av ae;by_cases E:n=0
 . subst E;(have t:Ae (¬Bj fs):= λe=>e.1 z);go_enter func78,ntmps78;go_wp2;go_ret;exact⟨.no t,kS _ _⟩
 have aF:((n:Int)==0)=false:=by simpa using E
 by_cases q1:32<n
 . (have t:Ae (¬Bj fs):= λe=>absurd e.2.1 (by rw[z];omega));have aw:(32:Int)<(n:Int):=oM;go_enter func78,ntmps78;go_wp2;go_ret;exact⟨.no t,kS _ _⟩
 have aw:¬(32:Int)<(n:Int):=oM;go_enter func78,ntmps78;go_wp2;go_loopw [15] (λi wr=>∃k:Nat,k<=n/\i=iZ k/\Ae (∀j,j<k->∀f,fs[j]?=K f->CE f)/\Ae (Ah w w wr)) (λi _=>n-(intOf i).toNat)
 case atStart=>exact⟨0,oM,rfl, λj hj=>oM,kS _ _⟩
 obtain⟨k,hk,rfl,I,l⟩:=hrel;by_cases T:k<n
 . obtain⟨⟨f,v⟩,p⟩:∃x,xs[k]?=K x:=⟨_,an (by rw[d.2.2.2.2];exact T)⟩;have m:=Bo d.2.1 p;have a:=Av (d5 ((d.2.2.1 _ (i7 p)).a7 l lR) (d5 (d.2.2.2.1 _ (i7 m)) m));rcases d.1.2 with⟨e0,_⟩|⟨b,o,c,m,y⟩
   . omega
   simp only[i8,lB]at m;obtain⟨rfl,rfl⟩:=m;have q:=Rd.elem Ay y k _ p 0 _ rfl;have r:=Rd.elem Ay y k _ p 1 _ rfl;have C:=Rd.elem Ay y k _ p 2 _ rfl;have D:=Rd.elem Ay y k _ p 3 _ rfl;rw[<-l.cell (hC q),kJ]at q;rw[<-l.cell (hC r)]at r;rw[<-l.cell (hC C)]at C;rw[<-l.cell (hC D)]at D;simp only[]at q r C D;obtain⟨L,N,A⟩:=a.1.1.dk;obtain⟨al,cl,P⟩:=a.1.2.1.dk;obtain⟨ac,cc,O⟩:=a.1.2.2.dk;obtain⟨vp,vl,vc⟩:=v;simp only[]at A P O q r C D;subst A P O;have nb:¬b=wr.heap.size:=mA (hC q);have mb:b<wr.heap.size:=hC q;go_wp2_with fail;(have A1:= λW (hW:Ah wr wr W)=>Mu ⟨Z L f.gw N,Z al f.gG cl,Z ac f.eC cc⟩ f W a.2.1 (a.1.a7 hW lR));refine(A1 _ (Aq _ _)).mono ?_;rintro e u ⟨⟨b0,rfl,Q⟩,am⟩;have G:Ae (Ah w w u):=Ar l lR (Ar (Aq _ _) lR am);cases b0
   . (have t:Ae (¬Bj fs):= λe=>by have:=e.2.2.1 k (by rw[z];exact T) f a.2.2;simp[this]at Q);go_wp2;go_ret;exact⟨.no t,G⟩
   have HC:Ae (CE f):=Q.1 rfl;go_wp2;go_roundw;(case rel=>exact⟨k+1,oM,by go_num,CO a.2.2 HC I,G⟩);exact oI
 have aq:n=k:=oM;subst aq;obtain⟨⟨f,v⟩,p⟩:∃x,xs[0]?=K x:=⟨_,an (by rw[d.2.2.2.2];omega)⟩;have m:=Bo d.2.1 p;have a:=Av (d5 ((d.2.2.1 _ (i7 p)).a7 l lR) (d5 (d.2.2.2.1 _ (i7 m)) m));rcases d.1.2 with⟨e0,_⟩|⟨b,o,c,m,y⟩
 . omega
 simp only[i8,lB]at m;obtain⟨rfl,rfl⟩:=m;have q:=Rd.elem Ay y 0 _ p 0 _ rfl;have r:=Rd.elem Ay y 0 _ p 1 _ rfl;rw[<-l.cell (hC q)]at q;simp only[Nat.zero_mul,kJ]at q;rw[<-l.cell (hC r),Nat.zero_mul,kJ]at r;obtain⟨L,N,A⟩:=a.1.1.dk;obtain⟨vp,vl,vc⟩:=v;simp only[]at A q r;subst A;have H:Ae (Bj fs↔QS f):=by show _↔_;refine⟨λe=>e.2.2.2 f a.2.2, λe=>⟨by rw[z];exact E,by rw[z];omega,by rw[z];exact I, λg S=> ?_⟩⟩;rw[a.2.2]at S;exact(kH S)▸e
 have aE:=a.2.1.1;generalize ah:f.gw.length=X at*;generalize aj:f.gy=R at*;have B:=Av (d5 ah aj);have aA:(0:Int)<(n:Int):=oM;by_cases F:X=0
 . subst F;(have HY:Ae ((R==0)=true↔Bj fs):=by show _↔_;rw[H.o,beq_iff_eq];exact⟨λe=>⟨B.1,B.2.trans e⟩, λe=>B.2.symm.trans e.2⟩);go_wp2;go_ret;exact⟨.of HY,l⟩
 have aG:((X:Int)==0)=false:=by simpa using F
 have t:Ae (¬Bj fs):= λe=>F (B.1.symm.trans (H.1 e).1)
 go_wp2;go_ret;exact⟨.no t,l⟩
def Jo(n g:Nat):J:=sG g n n
theorem Xa:(Tryz.prog.info? 67).map (λi=>(i.zero,i.size,i.bytes))=K (K sN,1,24):=kR
structure DM(w u:Y)(n:Nat)(V:J)(R:List Nat)(P:Nat->Nat->Bool):Prop where
 o:Ab u w 67 1 V R (R.map (Jo n))
 rows:∀i g,R[i]?=K g->Gm u w g n (P i)
 nodup:R.Nodup
 e8:Ah w w u
theorem DM.a7{w u b:Y}{n:Nat}{P:Nat->Nat->Bool}(h:DM w u n V R P)(a:Ah u u b):DM w b n V R P:=⟨Aw h.o a lR, λi g c=>(h.rows i g c).a7 a,h.nodup,Ar h.e8 lR a⟩
theorem Gm.lt{base g n:Nat}(h:Gm w base g n P):g<w.heap.size:=by obtain⟨_,b,a⟩:=AD h;exact(kM.1 a).1
theorem Gm.other{base g b n i:Nat}{x:J}(h:Gm w base g n P)(c:g≠b):Gm (Aa w ⟨b,i,M⟩ x) base g n P:=kN h (a:=⟨b,i,M⟩) (λe=>c (by simpa[Value.ownBlock]using e)) x
theorem DM.set{n:Nat}{P Q:Nat->Nat->Bool}(h:DM w u n V R P){b g d:Nat}{x:Bool}(c:R[b]?=K g)(r:∀j,j<n->Q b j=if j=d then x else P b j)(p:∀i,i≠b->Q i=P i):DM w (Aa u ⟨g,d,M⟩ x) n V R Q:=by
 have f:=h.rows b g c;refine⟨BE h.o f dC d _, λi m a=> ?_,h.nodup,h.e8.setCell (AD f).1 _⟩;by_cases e:i=b
 . subst e;rw[c]at a;(cases a);exact f.set d x r
 rw[p i e];refine(h.rows i m a).other λq=>e ?_
 subst q;obtain⟨s,k⟩:=i6.1 a;obtain⟨t,l⟩:=i6.1 c;exact(List.getElem_inj h.nodup).1 (k.trans l.symm)
theorem DM.add{w u d k:Y}{n:Nat}{P:Nat->Nat->Bool}(h:DM w u n V R P)(r:∀i,i= ↑R->P i= λ_=>false)(q:Ab d u 4 1 (sG u n n) n (bv (λ_=>false) n))(t:Ah u u d)(y:Ab k w 67 1 V' (R.length+1) (R.map (Jo n)++[Jo n u]))(j:(Ac d (Ak #[Jo n u] 67)).grownBy k V.ownBlock):DM w k n V' (R++[u.heap.size]) P:=by
 have l:=Aq d (Ak #[Jo n u] 67);have f:Ah u u (Ac d (Ak #[Jo n u] 67)):=Ar t lR l;have p:=Aw h.o f lR;have z:Gm (Ac d (Ak #[Jo n u] 67)) w u n (λ_=>false):=Ba (Aw q l lR) h.e8.size;refine⟨by rw[kE,kK,mF];exact y, λi g b=> ?_,?_,(Ar h.e8 lR f).grown j (kV h.e8.size f.size) (λi b=>(h.o.lt i b).1)⟩
 . by_cases e:i< ↑R
   . rw[lO e]at b;exact BJ ((h.rows i g b).a7 f) j p dC
   have x:=(i6.1 b).1;simp only[kE,kK]at x;have v:i=R.length:=oM;rw[kT oM]at b;subst v;simp only[mU,i9,kI]at b;subst b;rw[r _ rfl];exact BJ z j p dC
 refine nG.2 ⟨h.nodup,sP, λa s c m e=> ?_⟩;simp only[kY,lG,mS]at m;subst m;obtain⟨i,b⟩:=lH s;have:=(h.rows i a b).lt;omega
theorem JJ(U:Y)(x:J)(t:Aj):∀j u,[x][j]?=K u->(Ac U (Ak #[x] t)) ((⟨U,0,M⟩:Addr).add j)=K u:= λj u a=>by rw[Dk,lM,(AC.new U #[x] t).cell j];simpa using a
def GS(w:Y)(g n:Nat)(D:Nat->Nat->Bool):Prop:=∀b,b<n->∃r,w ⟨g,b,M⟩=K (sG r n n)/\∀d,d<n->w ⟨r,d,M⟩=K ↑(D b d)
theorem GS.a7{g n:Nat}{D:Nat->Nat->Bool}(h:GS w g n D)(a:Ah w w c):GS c g n D:= λb i=>by obtain⟨r,e,f⟩:=h b i;exact⟨r,Au a e, λd j=>Au a (f d j)⟩
theorem DM.cell{n g c m:Nat}{P:Nat->Nat->Bool}(h:DM w u n (sG g m c) R P)(d: ↑R=m){b:Nat}(a:b<m):∃r,R[b]?=K r/\u ⟨g,b,M⟩=K (sG r n n):=by subst d;have:=h.o.cellAt b oM;rw[lE,an a]at this;exact⟨_,an a,this⟩
theorem DM.mat{n g c:Nat}{P:Nat->Nat->Bool}(h:DM w u n (sG g n c) R P)(i: ↑R=n):GS u g n P:= λb j=>by obtain⟨r,a,e⟩:=h.cell i (b:=b) oM;exact⟨r,e, λd f=>(h.rows b r a).cell f⟩
theorem Rk(g o c n:Nat)(E:Nat->List Nat)(D:Nat->Nat->Bool)(w:Y)(hn:n<=1048576)(h0:0<n)(hD:∀d b,D d b=true↔CZ E d b)(hE:∀b,b<n->∀x∈E b,x<n)(aE:∀b,(E b).length<=2)(h:Km w g o n E):
 Ai Ap 60 #[sO g o n c] w λe w'=>∃f l,e=Al (sG f n l)/\GS w' f n (λb d=>D d b)/\Ah w w w'/\ ↑w<=f/\(∀b r,b<n->w'.cell? ⟨f,b,M⟩=K (sG r n n)-> ↑w<=r):=by
 obtain⟨j0,hj,aS,aT,aU⟩:=lS Em;obtain⟨k0,s,aP,aQ,aR⟩:=lS Xa;have H:=Av (d5 h (d5 hE (d5 aE hD)));clear h hE aE hD;have HS:Ae (DM w (Ac w (Ak #[] 67)) n (sG w 0 0) [] (λ_ _=>false)):=by refine⟨?_, λi g p=>by simp at p,List.nodup_nil,Aq _ _⟩;exact⟨rfl,.inr ⟨w,0,#[],rfl,Nat.le_refl _,AC.new w #[] 67,Nat.le_refl _,mz _,rfl,rfl⟩⟩
 go_enter func60,ntmps60;go_wp2;go_loopw [4,5] (λV i wr=>∃(R:List Nat) (f l:Nat),V=sG f R l/\i=iZ (R:Int)/\ ↑R<=n/\Ae (DM w wr n V R (λ_ _=>false))) (λ_ i _=>n-(intOf i).toNat)
 case atStart=>exact⟨[],_,_,rfl,rfl,sP,HS⟩
 clear HS;obtain⟨R,f,l,rfl,rfl,hR,a⟩:=hrel;by_cases S: ↑R<n
 . have aJ:(R:Int)<(n:Int):=oM;have aY:=a.o.e8.size;go_wp2_with (first
    |(at_make;refine l8 _ rfl _ _ 67 rfl wr 4 j0 false 1 underlying67 hj aS aT Af Af _ _ n rfl rfl rfl rfl (by rw[aU];omega) oX lR ?_;intro B W ao;rw[DX,Hv]at W;have L:Ah wr wr B:=(kS _ _).grown ao lR (λk s=>by cases s);have au:Ab (Ac B (Ak #[Jo n wr] 67)) w 67 1 (sG f R l) R (R.map (Jo n)):=Aw a.o.o (Ar L lR (Aq _ _)) lR;have aA: ↑w<=(Ac B (Ak #[Jo n wr] 67)).heap.size:=by have m:=L.size;have z:=(Aq B (Ak #[Jo n wr] 67)).size;omega)
    |(at_builtin;refine wpList_append_lies _ rfl _ _ 128 rfl w 67 k0 sN 1 24 underlying128 s aP aQ aR rfl dC _ R (R.map (Jo n)) rfl au B 1 1 [Jo n wr] rfl rfl (JJ B _ _) (λu hu=>by simp at hu;subst hu;rfl) oM (by simp[maxLen];omega) oM aA _ rfl ?_;intro g5 aj w5 aw aq aH aI;have aF:Ae (DM w w5 n (sG g5 (R.length+1) aj) (R++[wr.heap.size]) (λ_ _=>false)):=a.o.add (λ_ _=>rfl) W L aw aq;clear W ao aw aq aH aI L au aA)
    |go_in)
   go_roundw;(case rel=>exact⟨R++[wr.heap.size],g5,aj,by rw[kE,kK],by rw[kE,kK];go_num,by rw[kE,kK];omega,aF⟩);exact oI
 have G: ↑R=n:=oM
 have C:=Av G;rw[G]at a;rw[G];clear S hR G;have ae:Ae (DM w wr n (sG f n l) R (λi k=>decide (k<0)&&D k i)):=by
  have:(λi k=>decide (k<0)&&D k i)=(λ(_ _:Nat)=>false):=by funext i k;simp
  show DM w wr n _ R _;rw[this];exact a.o
 clear a;go_wp2;go_loopw [6] (λi wr=>∃d:Nat,d<=n/\i=iZ d/\Ae (DM w wr n (sG f n l) R (λi k=>decide (k<d)&&D k i))) (λi _=>n-(intOf i).toNat)
 case atStart=>exact⟨0,oM,rfl,ae⟩
 clear ae;obtain⟨d,hd,rfl,a⟩:=hrel;by_cases S:d<n
 . have aJ:(d:Int)<(n:Int):=oM;go_wp2_with fail;refine(Rp g o c n 0 (d:Int) E _ hn H.o.2.1 H.o.2.2.1 h0 (H.o.1.a7 a.o.e8)).mono ?_;rintro e u2 ⟨v,P,rfl,O,am,b2⟩;have N:Ae (Gm u2 wr v n P/\(∀x,x<n->(!P x)=D d x)/\ ↑wr<=v):=by refine⟨O, λx hx=> ?_,(AD O).1⟩;rw[nO,H.o.2.2.2 d x];unfold CZ;have F:DR E (λy=>(y:Int)≠(d:Int)) 0 x↔DR E (· ≠d) 0 x:=⟨λq=>q.mono λy hy e=>hy (by rw[e]), λq=>q.mono λy hy e=>hy oM⟩;rw[<-F,<-am x hx];simp
   (have ah:Ae (DM w u2 n (sG f n l) R (λi k=>(decide (k<d)||(decide (k=d)&&decide (i<0)))&&D k i)):=by (have F:(λi k=>(decide (k<d)||(decide (k=d)&&decide (i<0)))&&D k i)=(λi k=>decide (k<d)&&D k i):=by funext i k;simp);show DM w u2 n _ R _;rw[F];exact a.o.a7 b2);have HR:Ae ((∀i r,R[i]?=K r->r<wr.heap.size)/\w.heap.size<=wr.heap.size):=⟨λi r p=>(a.o.rows i r p).lt,a.o.e8.size⟩
   clear O am b2 a;go_wp2;go_loopw [8] (λi wr=>∃b:Nat,b<=n/\i=iZ b/\Ae (DM w wr n (sG f n l) R (λi k=>(decide (k<d)||(decide (k=d)&&decide (i<b)))&&D k i)/\Gm wr w v n P)) (λi _=>n-(intOf i).toNat)
   (case atStart=>exact⟨0,oM,rfl,ah.o,Ba N.o.1 HR.o.2⟩);clear ah;obtain⟨b,I,rfl,a⟩:=hrel;by_cases T:b<n
   . have aX:(b:Int)<(n:Int):=oM;obtain⟨r,A,c0⟩:=a.o.1.cell C.o T;have c1:=a.o.2.cell T;have X:=a.o.1.rows b r A;have c2:=X.cell S;have z2:=X.frozen d;(have aM:v≠r:=by have:=HR.o.1 b r A;have:=N.o.2.2;omega);have t:Ae (DM w (Aa wr ⟨r,d,M⟩ (An (!P b))) n (sG f n l) R (λi k=>(decide (k<d)||(decide (k=d)&&decide (i<b+1)))&&D k i)/\Gm (Aa wr ⟨r,d,M⟩ (An (!P b))) w v n P):=by
      refine⟨a.o.1.set A (λj hj=> ?_) (λi p=> ?_),a.o.2.other aM⟩
      . by_cases e:j=d
        . subst e;simp[N.o.2.1 b T]
        simp[e]
      (funext k);have:decide (i<b+1)=decide (i<b):=oT;simp[this]
     clear A X;go_wp2;go_region;refine AX (λu=>Ae (DM w u n (sG f n l) R (λi k=>(decide (k<d)||(decide (k=d)&&decide (i<b+1)))&&D k i)/\Gm u w v n P)) ?_ ?_
     . exact⟨t.o.1.a7 (At _),t.o.2.a7 (At _)⟩
     intro U HU;go_wp2;go_roundw;(case rel=>exact⟨b+1,oM,by go_num,HU⟩);exact oI
   obtain rfl:b=n:=oM;have t:Ae (DM w wr b (sG f b l) R (λi k=>decide (k<d+1)&&D k i)):=by
    refine⟨a.o.1.o, λi r p=> ?_,a.o.1.nodup,a.o.1.e8⟩;have m:=a.o.1.rows i r p;unfold Gm at m⊢;rw[I7 (Q:= λk=>decide (k<d+1)&&D k i)]at m
    . exact m
    intro k s;(have aW:i<b:=by have:=(i6.1 p).1;rw[C.o]at this;exact this);(have F:(decide (k<d)||(decide (k=d)&&decide (i<b)))=decide (k<d+1):=by rw[nO];simp;omega);simp only[F]
   go_wp2;go_roundw;(case rel=>exact⟨d+1,oM,by go_num,t⟩);exact oI
 obtain rfl:d=n:=oM;have t:Ae (GS wr f d (λb k=>D k b)):= λb I=>by obtain⟨r,m,z⟩:=a.o.mat C.o b I;refine⟨r,m, λk s=> ?_⟩;have:=z k s;simpa[s]using this
 have aG:Ae (Ab wr w 67 1 (sG f d l) d (R.map (Jo d))):=by have:=a.o.o;rw[C.o]at this;exact this
 go_wp2;go_ret;refine⟨f,l,rfl,t.o,a.o.e8,(AD aG.o).1, λb r I A=> ?_⟩;obtain⟨r',m,z⟩:=a.o.cell C.o (b:=b) I;rw[A]at z;simp only[kI,i8,mE,mV]at z;rw[z];exact(AD (a.o.rows b r' m)).1
theorem IV:∀(a b:List Int),a.Pairwise (· < ·)->b.Pairwise (· < ·)->(∀z,z∈a↔z∈b)->a=b
 |[],[],_,_,_=>rfl
 |[],y::b,_,_,h=>by have:=(h y).2 sP;cases this
 |x::a,[],_,_,h=>by have:=(h x).1 sP;cases this
 | x ::a,y::b,ha,hb,h=>by
   obtain⟨f,i⟩:=lg.1 ha;obtain⟨g,j⟩:=lg.1 hb;have e:x=y:=by
    rcases kY.1 ((h x).1 sP)with e|e
    . exact e
    rcases kY.1 ((h y).2 sP)with d|d
    . exact d.symm
    have:=g x e;have:=f y d;omega
   subst e;(congr 1);refine IV a b i j λz=>⟨λc=> ?_, λc=> ?_⟩
   . rcases kY.1 ((h z).1 (lU _ c))with e|e
     . have:=f z c;omega
     exact e
   rcases kY.1 ((h z).2 (lU _ c))with e|e
   . have:=g z c;omega
   exact e
theorem VQ(xs:List MI)(j:Nat)(c:A3 xs)(h:Bv xs xs j=true):j<=xs.length:=by
 simp only[Bv,Bool.or_eq_true,List.any_eq_true,mL,mB]at h;rcases h with h|⟨i,d,h⟩
 . omega
 cases hx:xs[i]? with
 |none=>rw[hx]at h;cases h
 | some x=>
   rw[hx]at h;simp only[F7,Bool.or_eq_true,mR,mB]at h;rcases h with⟨a,b⟩|⟨_,b⟩
   . have:=c.2.2 i x hx a;omega
   omega
def Eh(D:DataW Unit)(xs:List MI)(k:Nat):Prop:=∀z:Int,Go.Maps.has D (.int Af z)=(decide (0<=z)&&Bv xs k z.toNat)
theorem EW(D:DataW Unit)(a:Go.Maps.IsMap D)(z y:Int)(u:DataW Unit):Go.Maps.has (D.put (.int Af z) u) (.int Af y)=(Go.Maps.has D (.int Af y)||decide (y=z)):=by
 by_cases h:y=z
 . subst h;rw[Go.Maps.has_put_same a (show WideAt.IsKeyLit (Lit.int Af y)from trivial)];simp
 rw[Go.Maps.has_put_other (λe=>h (by cases e;rfl))];simp[h]
theorem Eh.start(xs:List MI)(u:DataW Unit):Eh ((DataW.map []:DataW Unit).put (.int Af 0) u) xs 0:= λz=>by
 rw[EW _ Go.Maps.isMap_empty,Kc];have e:Go.Maps.has (DataW.map []:DataW Unit) (.int Af z)=false:=rfl;rw[e];by_cases h:z=0
 . subst h;rfl
 by_cases a:0<=z
 . have:¬z.toNat=0:=oM;simp[h,this]
 simp[h,a]
theorem Eh.none{D:DataW Unit}{xs:List MI}{k:Nat}{x:MI}(h:Eh D xs k)(c:xs[k]?=K x)(a:A6 x=false)(b:¬x.op=29):Eh D xs (k+1):= λz=>by rw[h z,DV xs k _ x c];simp[F7,a,b]
theorem Eh.ret{D:DataW Unit}{xs:List MI}{k:Nat}{x:MI}{u:DataW Unit}(h:Eh D xs k)(b:Go.Maps.IsMap D)(f:xs[k]?=K x)(c:A6 x=false)(d:x.op=29):Eh (D.put (.int Af ((k:Int)+1)) u) xs (k+1):= λz=>by
 rw[EW D b,h z,DV xs k _ x f];by_cases a:0<=z
 . have e:decide (z=(k:Int)+1)=decide (z.toNat=k+1):=decide_eq_decide.2 ⟨λ_=>oM, λ_=>oM⟩;rw[e];simp[F7,c,d,a]
 have e:decide (z=(k:Int)+1)=false:=oT;simp[e,a]
theorem Eh.kw{D:DataW Unit}{xs:List MI}{k:Nat}{x:MI}{u i:DataW Unit}(h:Eh D xs k)(d:Go.Maps.IsMap D)(g:xs[k]?=K x)(f:A6 x=true)(j:0<=x.c):Eh ((D.put (.int Af x.c) u).put (.int Af ((k:Int)+1)) i) xs (k+1):= λz=>by
 rw[EW _ (d.put _ _),EW D d,h z,DV xs k _ x g];by_cases b:0<=z
 . have e:decide (z=(k:Int)+1)=decide (z.toNat=k+1):=decide_eq_decide.2 ⟨λ_=>oM, λ_=>oM⟩;have a:decide (z=x.c)=decide (x.c=(z.toNat:Int)):=decide_eq_decide.2 ⟨λ_=>oM, λ_=>oM⟩;rw[e,a];simp[F7,f,b,Bool.or_assoc]
 have e:decide (z=(k:Int)+1)=false:=oT;have a:decide (z=x.c)=false:=oT;simp[e,a,b]
theorem DN(h:Ah w w a):w.grownBy a M:=⟨h.os,h.tape,h.output,h.size, λk b _=>h.block k b⟩
theorem AW.a7{b a:Nat}{D:DataW Unit}(h:AW w b a D)(d:Ah w w c):AW c b a D:=World.ownsMap.kept h (DN d) sP
structure LX(w wr U:Y)(x:MI)(cnt:Nat)(D:DataW Unit):Prop where
 set:AW U w cnt D
 xb:AC U wr #[x.op,x.a,x.b,x.c] 72
 e8:Ah w w U
 lt:(w:Nat)< ↑wr
theorem LX.a7{w wr U b:Y}{x:MI}{c:Nat}{D:DataW Unit}(h:LX w wr U x c D)(a:Ah U U b):LX w wr b x c D:=⟨h.set.a7 a,h.xb.a7 a,Ar h.e8 lR a,h.lt⟩
theorem LX.grown{wr:Y}{x:MI}{f c:Nat}{D b:DataW Unit}(h:LX w wr U x f D)(i:AW a w c b)(d:U.grownBy a (K w)):LX w wr a x c b:=by refine⟨i,?_,h.e8.grown d h.e8.size (λj g=>by cases g;exact Nat.le_refl _),h.lt⟩;have:=h.xb;have k:=h.lt;unfold AC at*;rw[d.block _ h.xb.lt (λe=>by have:=kH e;omega)];exact this
theorem Yb(w:Y):(zeroValue 207).run Ap w=.ok (.agg #[]) w:=kR
theorem KH(b a:Nat)(D:DataW Unit)(z:Int)(w:Y)(d:Dg z)(h:AW w b a D):
 Ai Ap 111 #[.map (K b),z] w λe f=>e=Al (Go.Maps.has D (.int Af z))/\Ah w w f:=by
 have c:w.ownsMap Ap 2 (unitElem (H:=Unit)) b a D:=h;go_enter func111,ntmps111;go_wp2_with (at_lookup;refine wpList_lookup_own_unit _ rfl _ _ 154 rfl 2 207 EL underlying154 (Yb _) b a D rfl c _ _ rfl (nC underlying2 d) ?_);go_ret;exact⟨rfl,Aq _ _⟩
theorem TV(b:Nat)(w:Y):
 Ai Ap 101 #[.map (K b),Z M 0 0] w λe a=>e=Al (.tuple #[])/\a=w:=by
 go_enter func101,ntmps101;go_wp2;go_loopw [8] (λi wr=>i=.int Af 0/\wr=w) (λ_ _=>0)
 case atStart=>exact⟨rfl,rfl⟩
 obtain⟨rfl,rfl⟩:=hrel;go_wp2;go_end0;exact⟨rfl,rfl⟩
def FW(w:Y)(g o n:Nat)(E:Nat->List Nat):Prop:=∀b,b<n->∃a c,w ⟨g,o+b,M⟩=K (Z a (E b).length c)/\I5 w (Z a (E b).length c) (E b)
theorem FW.a7{g o n:Nat}{E:Nat->List Nat}(h:FW w g o n E)(d:Ah w w e):FW e g o n E:= λb j=>by obtain⟨a,c,f,i⟩:=h b j;exact⟨a,c,Au d f,i.a7 d⟩
def WB(c a d b:Nat):J:=.func (.func 157) #[] #[.pointer c,.pointer a,.pointer d,.pointer b]
structure PO(w u:Y)(n bm bs be bw bl:Nat)(EV V:J)(S O:List Nat):Prop where
 set:∃cnt D,AW u bm cnt D/\cnt+A8 S n<=n+1/\∀x:Nat,Go.Maps.has D (.int Af (x:Int))=S.contains x
 sb:AC u bs #[.map (K bm)] 154
 eb:AC u be #[EV] 22
 wb:AC u bw #[WB bs be bw bl] 235
 lb:AC u bl #[V] 46
 list:Gh u w V O
 e8:Ah w w u
 ge: ↑w<=bm/\ ↑w<=bl
 len: ↑O+A8 S n<=n
theorem PO.a7{n e f c g d:Nat}{b V:J}(h:PO w u n e f c g d b V S O)(a:Ah u.heap.size u i):PO w i n e f c g d b V S O:=by obtain⟨j,D,k,l,m⟩:=h.set;exact⟨⟨j,D,k.a7 a,l,m⟩,h.sb.a7 a,h.eb.a7 a,h.wb.a7 a,h.lb.a7 a,h.list.a7 a,Ar h.e8 lR a,h.ge,h.len⟩
theorem AC.gb{b:Nat}{a:Array J}{row:Option Nat}(h:AC w b a t)(d:w.grownBy c row)(e:K b≠row):AC c b a t:=by unfold AC at*;rw[d.block b (kM.1 h).1 e];exact h
theorem LJ{b a f:Nat}{D:DataW Unit}{g:Array J}(h:AW w b f D)(d:AC w a g t):a≠b:= λe=>by obtain⟨j,i,c,_⟩:=h;subst e;unfold AC at d;rw[d]at c;cases c
theorem LK{base k n b d:Nat}{e:Aj}{v:J}{xs:List J}{D:DataW Unit}(h:Ab w base e k v n xs)(i:AW w b d D):K b≠v.ownBlock:=by
 obtain⟨m,j,f,_⟩:=i;intro a;rcases h.2 with⟨rfl,_⟩|⟨g,cap,l,rfl,_,c,_⟩
 . cases a
 simp only[Value.ownBlock,kI]at a;subst a;rw[f]at c;cases c
theorem PO.add{n a r p s q d b:Nat}{l:J}{D:DataW Unit}(h:PO w u n a r p s q l V S O)(f:AW u a d D)(F:d+A8 S n<=n+1)(z:∀x:Nat,Go.Maps.has D (.int Af (x:Int))=S.contains x)(A:b<n)(B:b∉S)(E:AW i a (d+1) (D.put (.int Af (b:Int)) (.agg [])))(c:u.grownBy i (K a)):PO w i n a r p s q l V (b::S) O:=by
 have G:=Ev S n b A B;have ne:∀{m:Nat} {y:Array J} {t:Aj},AC u m y t->K m≠K a:= λk e=>LJ f k (kH e)
 refine⟨⟨_,_,E,oM, λx=> ?_⟩,h.sb.gb c (ne h.sb),h.eb.gb c (ne h.eb),h.wb.gb c (ne h.wb),h.lb.gb c (ne h.lb),Do h.list c (λg v e=>by rw[e]at v;exact LK h.list f v.symm),h.e8.grown c h.e8.size (λj C=>by cases C;exact h.ge.1),h.ge,by have:=h.len;omega⟩;rw[EW D (mv f),z x];by_cases e:x=b
 . subst e;simp
 have:¬(x:Int)=(b:Int):=oM;simp[e,this]
theorem PO.al{n d e b f c:Nat}{a:J}(h:PO w u n d e b f c a V S O)(o:Obj):Ab (u.alloc o) w 2 1 V O (nv O)/\ ↑w<=(u.alloc o).heap.size:=⟨h.list.a7 (Aq _ _),kV h.e8.size (Aq _ _).size⟩
theorem PO.gX{n l v s x d b:Nat}{p:J}(h:PO w u n l v s x d p V S O)(A:Ab f w 2 1 V' (O.length+1) (nv O++[.int Af (b:Int)]))(g:(Ac u (Ak #[.int Af (b:Int)] 2)).grownBy f V.ownBlock)(Q: ↑O+1+A8 S n<=n):AC f d #[V] 46/\PO w (f.setCell d V') n l v s x d p V' S (O++[b]):=by
 have G:=Aq u (Ak #[b] 2);have c:=h.a7 G;obtain⟨y,D,z,I,L⟩:=c.set;have F:AW f l y D:=World.ownsMap.kept z g (LK c.list z);have j:AC f d #[V] 46:=c.lb.grown g c.list dC;have C:=c.sb.grown g c.list dC;have B:=c.eb.grown g c.list dC;have E:=c.wb.grown g c.list dC;have N:Ah w w f:=c.e8.grown g c.e8.size (λi P=>(c.list.lt i P).1);have m:∀{r:Nat} {H:Array J} {t:Aj},AC f r H t->t≠46->r≠(⟨d,0,M⟩:Addr).block:= λk q e=>by simp only[]at e;subst e;unfold AC at k j;rw[j]at k;simp only[kI,mg]at k;exact q k.2.1.symm
 refine⟨j,⟨y,D,?_,I,L⟩,C.other (m C dC) _,B.other (m B dC) _,E.other (m E dC) _,?_,?_,N.setCell h.ge.2 _,h.ge,by rw[kE,kK];exact Q⟩
 . refine World.ownsMap.kept F (row:=K d) ⟨rfl,rfl,rfl,by rw[lr];exact Nat.le_refl _, λk T R=>lY f _ k _ (λe=>R (by rw[e]))⟩ (λe=>LJ F j (kH e).symm)
 . have:=j.set 0 V';simpa using this
 unfold Gh;rw[kE,kK,Fx];exact kN A (a:=⟨d,0,M⟩) (λq=>BF A j dC d q rfl) _
theorem OZ{X:Nat}{a b c d:J}(h:AC u X #[a,b,c,d] t):u X=K a/\u ⟨X,1,M⟩=K b/\u ⟨X,2,M⟩=K c/\u ⟨X,3,M⟩=K d:=⟨h.cell 0,h.cell 1,h.cell 2,h.cell 3⟩
theorem Fe(a:0<=z)(b:z<=1048576):Dg z:=WalkArith.wf_i64 oM
theorem MG(s:J)(xs:List MI)(w:Y)(R:A3 xs)(h:Rd w 4 s xs (Ad MI.cells xs)):
 Ai Ap 129 #[s] w λe w'=>∃g cap,e=Al (sG g (CS xs xs).length cap)/\Ab w' w 2 1 (sG g (CS xs xs).length cap) (CS xs xs).length (Ad As ((CS xs xs).map Int.ofNat))/\Ah w w w':=by
 have H:=Av h;have HG:=Av R;have aI:=R.1;have aJ:=R.2.1;obtain⟨a1,c1,rfl⟩:=h.dk;clear h R;generalize am:xs.length=n at H aI aJ;have E:=Av am;clear am;have aS:= @run_makeMap Ap;have S0:AW (Ac w (.map #[] 0)) w 0 (.map []):=World.ownsMap_made _ _ _ _;have B0:Ah w w (Ac w (.map #[] 0)):=Aq _ _;have z0:(Ac w (.map #[] 0)).heap.size= ↑w+1:=sP
 have aq:(Ac (Ac w (.map #[] 0)) (Ak #[iZ 0] 2)) ⟨(w:Nat)+1,0,M⟩=K (iZ 0):=by have:=(AC.new (Ac w (.map #[] 0)) #[iZ 0] 2).cell 0;rw[z0]at this;exact this
 have Q:Ae (AW (Ac (Ac w (.map #[] 0)) (Ak #[iZ 0] 2)) w 0 (.map [])/\Ah w w (Ac (Ac w (.map #[] 0)) (Ak #[iZ 0] 2))):=⟨S0.a7 (Aq _ _),Ar B0 lR (Aq _ _)⟩
 have f:Ae _:=aq;clear S0 B0 z0 aq;go_enter func129,ntmps129;go_wp2_with fail;refine(D9 w 0 ((w:Nat)+1) 1 (.map []) 0 _ (Fe oM oM) oM f oM Q.1).mono ?_;rintro e u1 ⟨rfl,s1,g1⟩;have G:Ae (∃d D,d<=1/\AW u1 w d D/\Eh D xs 0/\Ah w w u1):=⟨_,_,Nat.le_refl _,s1,Eh.start xs _,Q.2.grown g1 Q.2.size (λj O=>by cases O;exact Nat.le_refl _)⟩
 clear s1 g1 Q f;go_wp2;go_loopw [12] (λi wr=>∃k:Nat,k<=n/\i=iZ k/\Ae (∃d D,d<=2*k+1/\AW wr w d D/\Eh D xs k/\Ah w w wr)) (λi _=>n-(intOf i).toNat)
 case atStart=>exact⟨0,oM,rfl,G⟩
 clear G;obtain⟨k,hk,rfl,G⟩:=hrel;obtain⟨d,D,aQ,ae,au,ao⟩:=G.o;have l:=Av (d5 au (d5 ao (d5 ae (mv ae))));clear ae au ao G;by_cases aP:k<n
 . obtain⟨x,A⟩:∃x,xs[k]?=K x:=⟨_,an (by rw[E];exact aP)⟩;have P:=Av A;rcases H.2 with⟨e0,_⟩|⟨g,o,c,e1,y⟩
   . omega
   simp only[i8,lB]at e1;obtain⟨rfl,rfl⟩:=e1;have x0:=Rd.elem MI.dr y k _ A 0 _ rfl;have x1:=Rd.elem MI.dr y k _ A 1 _ rfl;have x2:=Rd.elem MI.dr y k _ A 2 _ rfl;have x3:=Rd.elem MI.dr y k _ A 3 _ rfl;rw[<-l.2.1.cell (hC x0),kJ]at x0;rw[<-l.2.1.cell (hC x1)]at x1;rw[<-l.2.1.cell (hC x2)]at x2;rw[<-l.2.1.cell (hC x3)]at x3;clear y A;have aR:(k:Int)<(n:Int):=oM;have aj:Ae (LX w wr (Ac wr (Ak #[x.op,x.a,x.b,x.c] 72)) x d D):=⟨l.2.2.1.a7 (Aq _ _),AC.new _ _ _,Ar l.2.1 lR (Aq _ _),m7 l.2.2.1⟩;(go_upto_region 6 with fail);refine Ax (λu=>Ae (LX w wr u x d D)) aj ?_;intro U1 V;clear aj x0 x1 x2 x3;obtain⟨a0,m,p,r⟩:=OZ V.xb;go_wp2_with fail;refine(Cw x _).mono ?_;rintro e T ⟨rfl,b2⟩;have v:=Av (V.a7 b2);clear b2 a0 m p r V;cases hgo:A6 x
   . obtain⟨a0,m,p,r⟩:=OZ v.xb;go_wp2_with fail;refine(Cw x _).mono ?_;rintro e t ⟨rfl,b3⟩;have I:=Av (v.a7 b3);clear b3 a0 m p r v;rw[hgo];obtain⟨a0,m,p,r⟩:=OZ I.xb;by_cases S:x.op=29
     . rw[S]at a0;have f:Ae ((Ac t (Ak #[iZ ((k:Int)+1)] 2)) t=K (iZ ((k:Int)+1))/\LX w wr (Ac t (Ak #[iZ ((k:Int)+1)] 2)) x d D/\¬(t:Nat)= ↑w):=⟨(AC.new t #[iZ ((k:Int)+1)] 2).cell 0,I.a7 (Aq _ _),by have:=m7 I.set;omega⟩
       go_wp2_with fail;refine(D9 w d t 1 D ((k:Int)+1) _ (Fe oM oM) oM f.1 f.2.2 f.2.1.set).mono ?_;rintro e u4 ⟨rfl,B,L⟩;have F:Ae (∃d D,d<=2*(k+1)+1/\AW u4 w d D/\Eh D xs (k+1)/\Ah w w u4):=⟨_,_,oM,B,l.1.ret l.2.2.2 P hgo S,(f.2.1.grown B L).e8⟩
       clear B L a0 m p r;go_wp2;go_roundw;(case rel=>exact⟨k+1,oM,by go_num,F⟩);exact oI
     (have aT:(x.op==29)=false:=by simpa using S);have F:Ae (∃d D,d<=2*(k+1)+1/\AW t w d D/\Eh D xs (k+1)/\Ah w w t):=⟨_,_,oM,I.set,l.1.none P hgo S,I.e8⟩
     go_wp2;go_roundw;(case rel=>exact⟨k+1,oM,by go_num,F⟩);exact oI
   obtain⟨aH,y⟩:=HG.2.2 k x P hgo;rw[E]at y;obtain⟨a0,m,p,r⟩:=OZ v.xb;have f:=Av (d5 ((AC.new T #[x.c] 2).cell 0) (d5 ((v.a7 (Aq _ _)):LX w wr (Ac T (Ak #[x.c] 2)) x d D) ((by have:=m7 v.set;omega):¬(T:Nat)= ↑w)))
   go_wp2_with fail;refine(D9 w d T 1 D x.c _ (Fe oM oM) oM f.1 f.2.2 f.2.1.set).mono ?_;rintro e u4 ⟨rfl,B,L⟩;have W:=Av (f.2.1.grown B L);clear B L a0 m p r f v;obtain⟨a0,m,p,r⟩:=OZ W.xb;go_wp2_with fail;refine(Cw x _).mono ?_;rintro e C ⟨rfl,b5⟩;have X:=Av (W.a7 b5);clear b5 a0 m p r W;rw[hgo];obtain⟨a0,m,p,r⟩:=OZ X.xb;have f:Ae ((Ac C (Ak #[.int Af ((k:Int)+1)] 2)).cell? C=K (.int Af ((k:Int)+1))/\LX w wr (Ac C (Ak #[.int Af ((k:Int)+1)] 2)) x (d+1) (D.put (.int Af x.c) (.agg []))/\¬(C:Nat)= ↑w):=⟨(AC.new C #[.int Af ((k:Int)+1)] 2).cell 0,X.a7 (Aq _ _),by have:=m7 X.set;omega⟩
   go_wp2_with fail;refine(D9 w (d+1) C 1 (D.put (.int Af x.c) (.agg [])) ((k:Int)+1) _ (Fe oM oM) oM f.1 f.2.2 f.2.1.set).mono ?_;rintro e u6 ⟨rfl,s6,g6⟩;have F:Ae (∃d D,d<=2*(k+1)+1/\AW u6 w d D/\Eh D xs (k+1)/\Ah w w u6):=⟨_,_,oM,s6,l.1.kw l.2.2.2 P hgo aH,(f.2.1.grown s6 g6).e8⟩
   clear s6 g6 a0 m p r;go_wp2;go_roundw;(case rel=>exact⟨k+1,oM,by go_num,F⟩);exact oI
 obtain rfl:k=n:=oM;go_wp2_with (at_delete;refine wpList_delete_own _ rfl _ _ 154 2 rfl 207 EL underlying154 _ w d D rfl l.2.2.1 _ _ rfl (nC underlying2 (Fe (z:=(k:Int)) oM oM)) ?_;intro w1 aA aF);have U:=Av (d5 aA (l.2.1.grown aF.grown l.2.1.size (λj O=>by cases O;exact Nat.le_refl _)));clear aA aF;go_wp2_with fail;refine(IU w d _ _ oM U.1).mono ?_;rintro e u9 ⟨g9,aG,zs,rfl,ah,aE,aw,b9⟩;have ez:zs=(CS xs k).map Int.ofNat:=by
  refine IV _ _ aE (mu.2 ((Dm xs k).imp (λh=>by simpa using h))) λz=> ?_
  rw[aw,lA];constructor
  . rintro⟨h1,N⟩;by_cases e:z=(k:Int)
    . subst e;rw[Go.Maps.has_del_same]at N;cases N
    rw[Go.Maps.has_del_other (λq=>e (by cases q;rfl)),l.1 z]at N;simp only[mR,mB]at N;have:=N.2;rw[<-E]at this;have aM:=VQ xs _ HG this;rw[E]at aM;exact⟨z.toNat,(C6 _ _ _).2 ⟨oM,this⟩,oT⟩
  rintro⟨j,O,rfl⟩;obtain⟨j1,j2⟩:=(C6 _ _ _).1 O;rw[E]at j2;refine⟨Fe sP oT,?_⟩;rw[Go.Maps.has_del_other (λq=>by cases q;omega),l.1];simp[j2]
 subst ez;rw[lC]at ah;have HE:=Av (d5 (Ba ah U.2.size) (Ar U.2 lR b9));clear ah aE aw b9;rw[lC];go_wp2;go_ret;exact⟨g9,aG,rfl,HE.1,HE.2⟩
def I9(D:Nat->Nat->Bool)(d j:Nat):Nat:=((List.range j).filter λk=>D k d).length
theorem Q4(D:Nat->Nat->Bool)(d j:Nat):I9 D d (j+1)=I9 D d j+if D j d=true then 1 else 0:=by unfold I9;rw[mw,mh,kE];cases h:D j d<;>simp[h]
theorem T0(D:Nat->Nat->Bool)(d j:Nat):I9 D d j<=j:=by have:=mW (λk=>D k d) (List.range j);simpa[I9]using this
theorem L3{q:Prop}(h:q:=by
 go_wp2;go_roundw;case rel=>exact⟨d+1,best,most,by omega,by trivial,by trivial,by go_num,hm1,hm2,HN,by trivial⟩
 simp[intOf];omega):q:=h
theorem Rm(f r n b:Nat)(D:Nat->Nat->Bool)(w:Y)(Q:n<=1048576)(s:b<n)(h:GS w f n (λb d=>D d b)):
 Ai Ap 61 #[Z f n r,(b:Int)] w λe A=>∃best most,e=Al (Ag Af best)/\Cr D n b n best most/\A=w:=by
 have H:Ae (GS w f n (λb d=>D d b)):=h;obtain⟨z,R,l⟩:=h b s;have p:Ae (∀d,d<n->w ⟨z,d,M⟩=K ↑(D d b)):=l
 have G:(b:Int)<(n:Int):=oM;clear h l;go_enter func61,ntmps61;go_wp2;go_loopw [5,6,7] (λx y i wr=>∃(d:Nat) (best most:Int),d<=n/\x=Ag Af best/\y=Ag Af most/\i=Ag Af d∧-1<=most/\most<=1048576/\Ae (Cr D n b d best most)/\wr=w) (λ_ _ i _=>n-(intOf i).toNat)
 case atStart=>exact⟨0,-1,-1,oM,rfl,rfl,rfl,oM,oM,Cr.start D n b,rfl⟩
 obtain⟨d,best,most,I,rfl,rfl,rfl,hm1,hm2,c,rfl⟩:=hrel;by_cases j:d<n
 . have P:(d:Int)<(n:Int):=oM;by_cases e:d=b
   . subst e;have HN:Ae (Cr D n d (d+1) best most):=c.skip (λq=>q.1 rfl);exact L3
   have E:((d:Int)==(b:Int))=false:=oT;have F:¬(d:Int)=(b:Int):=oM;have c0:=p.o d j;cases hD:D d b
   . rw[hD]at c0;have HN:Ae (Cr D n b (d+1) best most):=c.skip (λq=>by rw[hD]at q;cases q.2);exact L3
   rw[hD]at c0;obtain⟨rd,C,g⟩:=H.o d j;have m:Ae (∀k,k<n->wr ⟨rd,k,M⟩=K ↑(D k d)):=g
   clear g;go_wp2;go_loopw [8,9] (λx i B=>∃k:Nat,k<=n/\x=Ag Af (I9 D d k:Int)/\i=Ag Af k/\B=wr) (λ_ i _=>n-(intOf i).toNat)
   (case atStart=>exact⟨0,oM,rfl,rfl,rfl⟩);obtain⟨k,L,rfl,rfl,rfl⟩:=hrel;have N:=T0 D d k;by_cases v:k<n
   . have O:(k:Int)<(n:Int):=oM;have c1:=m.o k v;have a:=Q4 D d k;cases hDk:D k d
     . rw[hDk]at c1 a;simp only[nW,if_false,kJ]at a;go_wp2;go_roundw;(case rel=>exact⟨k+1,oM,by rw[a],by go_num,by trivial⟩);exact oI
     rw[hDk]at c1 a;simp only[if_true]at a;go_wp2;go_roundw;(case rel=>exact⟨k+1,oM,by rw[a];go_num,by go_num,by trivial⟩);exact oI
   obtain rfl:k=n:=oM;have t:N0 D k d=I9 D d k:=rfl;by_cases u:most<(I9 D d k:Int)
   . have HN:Ae (Cr D k b (d+1) (d:Int) (I9 D d k:Int)):=c.more e hD u;go_wp2;go_roundw;(case rel=>exact⟨d+1,_,_,oM,rfl,rfl,by go_num,oM,oM,HN,by trivial⟩);exact oI
   have HN:Ae (Cr D k b (d+1) best most):=c.less (by rw[t];omega);exact L3
 obtain rfl:d=n:=oM;go_wp2;go_ret;exact⟨best,most,rfl,c,rfl⟩
theorem Ee(h:x<=1048576):Dg (x:Int):=by simp[Dg,Lit.wf,IntKind.min,IntKind.max,IntKind.signed,IntKind.bits];omega
theorem UV(w:Y)(g o c n j l p q f:Nat)(E:Nat->List Nat)(hn:n<=1024)(hE:∀b,b<n->∀x∈E b,x<n)(aF:∀b,(E b).length<=2048)(h:FW w g o n E):
 ∀(m:Nat) (S O:List Nat) (b:Nat) (V:J) (u:Y),A8 S n=m->b<n->PO w u n j l p q f (sO g o n c) V S O->(b∉S-> ↑O+A8 S n<=n)->
 Ai Ap 157 #[(b:Int),.pointer (K ⟨l,0,M⟩),.pointer (K ⟨p,0,M⟩),.pointer (K ⟨q,0,M⟩),.pointer (K ⟨f,0,M⟩)] u λe u'=>e=Al (Ao #[])/\∃V' S' d,Vs E S O [b] S' d/\PO w u' n j l p q f (sO g o n c) V' S' d/\d.length+A8 S' n<=O.length+A8 S n:=by
 obtain⟨k0,hk,aS,aT,aU⟩:=lS Bp;have H:=Av (d5 h (d5 hE aF));clear h hE aF;intro m;induction m using Nat.strongRecOn with
 | ind m ih=>
   intro S O b V u hm N Q au;have IH:Ae (∀m',m'<m->∀(S O:List Nat) (b:Nat) (V:J) (u:Y),A8 S n=m'->b<n->PO w u n j l p q f (sO g o n c) V S O->(b∉S-> ↑O+A8 S n<=n)->
    Ai Ap 157 #[(b:Int),.pointer l,.pointer p,.pointer q,.pointer f] u λe u'=>e=Al (Ao #[])/\∃V' S' d,Vs E S O [b] S' d/\PO w u' n j l p q f (sO g o n c) V' S' d/\ ↑d+A8 S' n<= ↑O+A8 S n):=ih
   have HP:=Av Q;obtain⟨ae,D,hs,ao,hD⟩:=Q.set;have A:=Av (d5 hs (d5 ao hD));have am:=hD b;have s0:u l=K (.map (K j)):=Q.sb.cell 0;have b7:(b:Int)<(n:Int):=oM;clear ih Q hs hD;go_enter func157,ntmps157;go_wp2_with fail;refine(KH j ae D (b:Int) u (Ee oM) A.1).mono ?_;rintro e s ⟨rfl,W⟩;rw[am];have z:=Av (d5 (HP.a7 W) (A.1.a7 W));clear W s0 am;cases hc:S.contains b
   . (have P:b∉S:=by simpa using hc);have aG:=Ev S n b N P;have F:=Av (d5 aG (d5 hm (au P)));clear aG hm au;have s0:s l=K (.map (K j)):=z.1.sb.cell 0;have t:Ae ((Ac s (Ak #[(b:Int)] 2)) s=K ↑(b:Int)/\AW (Ac s (Ak #[(b:Int)] 2)) j ae D/\PO w (Ac s (Ak #[(b:Int)] 2)) n j l p q f (sO g o n c) V S O/\¬ ↑s=j):=⟨(AC.new s #[(b:Int)] 2).cell 0,z.2.a7 (Aq _ _),z.1.a7 (Aq _ _),by have:=m7 z.2;omega⟩
     go_wp2_with fail;refine(D9 j ae s 1 D (b:Int) _ (Ee oM) (by have:=A.2.1;omega) t.1 t.2.2.2 t.2.1).mono ?_;rintro e u2 ⟨rfl,s2,g2⟩;have B:=Av (t.2.2.1.add t.2.1 A.2.1 A.2.2 N P s2 g2);clear s2 g2 s0 t z A HP ao;obtain⟨a,ca,L,g1⟩:=H.1 b N;have HG:=Av (d5 L g1);(replace L:=Au B.e8 L);have e0:u2 p=K (sO g o n c):=B.eb.cell 0;have aX:=H.2.2 b;clear g1;go_wp2;go_loopw [20] (λi wr=>∃(S' d:List Nat) (V':J) (k:Nat),i=iZ k/\k<=(E b).length/\Ae (Vs E (b::S) O ((E b).take k) S' d/\PO w wr n j l p q f (sO g o n c) V' S' d/\ ↑d+A8 S' n+1<= ↑O+A8 S n)) (λi _=>(E b).length-(intOf i).toNat)
     (case atStart=>exact⟨b::S,O,V,0,rfl,oM,by simpa using Vs.nil (b::S) O,B,by have:=F.o;omega⟩);clear B L e0;obtain⟨S',d,V',k,rfl,bf,r⟩:=hrel;by_cases aP:k<(E b).length
     . have bg:(k:Int)<((E b).length:Int):=oM;obtain⟨y,R⟩:∃y,(E b)[k]?=K y:=⟨_,an aP⟩;have aW:y<n:=H.2.1 b N y (i7 R);obtain⟨ga,oa,rfl,_,y0⟩:=HG.2.at_ R;(replace y0:=Au r.2.1.e8 y0);have f0:wr q=K (.func (.func 157) #[] #[.pointer l,.pointer p,.pointer q,.pointer f]):=r.2.1.wb.cell 0;(have HT:Ae ((E b).take (k+1)=(E b).take k++[y]):=by obtain⟨hl,rfl⟩:=i6.1 R;exact kU hl);have aw:=r.1.more;have aR:=Hp n aw;have HC:=Av (IH.o (A8 S' n) (by have:=F.o;omega) S' d y V' wr rfl aW r.2.1 (λ_=>by have:=r.2.2;have:=F.o;omega));clear R aw aR;go_wp2_with fail;refine HC.mono ?_;rintro e u3 ⟨rfl,V3,I,G,aH,aE,aM⟩;have HN:Ae (Vs E (b::S) O ((E b).take (k+1)) I G/\PO w u3 n j l p q f (sO g o n c) V3 I G/\ ↑G+A8 I n+1<= ↑O+A8 S n):=by refine⟨?_,aE,by have:=r.2.2;omega⟩;rw[HT];exact r.1.gX aH
       clear aH aE aM y0 f0 HC;go_wp2;go_roundw;(case rel=>exact⟨I,G,V3,k+1,by go_num,oM,HN⟩);exact oI
     obtain rfl:k=(E b).length:=oM;obtain⟨T,X,rfl⟩:=AO r.2.1.list;have aY:=F.o;have aZ:=r.2.2;(go_upto_region 7 with fail);refine Ax (λu=>Ae (PO w u n j l p q f (sO g o n c) (Z T d X) S' d)) r.2.1 ?_;intro U C;have l0:U f=K (Z T d X):=C.lb.cell 0;go_wp2_with (at_builtin;refine wpList_append_lies _ rfl _ _ 46 rfl w 2 k0 (iZ 0) 1 8 underlying46 hk aS aT aU rfl dC _ d (nv d) rfl (C.al (Ak #[(b:Int)] 2)).1 U 1 1 [(b:Int)] rfl rfl (Bw U (b:Int)) (λu hu=>by simp at hu;subst hu;rfl) oM (by simp[maxLen];omega) oM (C.al (Ak #[(b:Int)] 2)).2 _ rfl ?_;intro g5 aj w5 aA aq aJ aQ;obtain⟨ah,l5⟩:=C.gX aA aq oM;have aI:Ae (PO w (w5.setCell f (sG g5 (d.length+1) aj)) n j l p q f (sO g o n c) (sG g5 (d.length+1) aj) S' (d++[b])):=l5;have t5:w5 f=K (Z T d X):=ah.cell 0;have z5:=ah.frozen 0;clear aA aq aJ aQ ah l5);go_end0;refine⟨rfl,_,S',d++[b],?_,aI,by rw[kE,kK];omega⟩;have:=r.1;rw[k8 lR]at this;exact .new P this (.nil _ _)
   go_wp2_with fail;exact kQ (v:=Ao #[]) (by simp[results,results157,go_sem]) rfl ⟨rfl,V,S,O,.old (by simpa using hc) (.nil _ _),z.1,Nat.le_refl _⟩
def Ei(xs:List MI):Prop:=∀(i:Nat) (x:MI),xs[i]?=K x->A6 x=true->0<=x.c/\x.c<(xs:Int)
theorem In(a:Option Addr)(c:Nat)(z:Int)(w:Y):Ai Ap 138 #[Z a 0 c,z] w λe b=>e=Al false/\b=w:=by have h:=AnyG.slices_Contains_int_empty Tryz.lContains a c z w;exact h
theorem N3(g c:Nat)(y z:Int)(w:Y)(a:w g=K ↑y):Ai Ap 138 #[sG g 1 c,z] w λe d=>e=Al (An (decide (z=y)))/\d=w:=by
 have h:=AnyG.slices_Contains_int Tryz.lContains g 0 1 c [y] z w sP oM (λj b=>by
  have:j=0:=by simpa using b
  subst this;simpa using a)
 have e:([y].take 1).contains z=decide (z=y):=by
  by_cases q:z=y
  . simp[q]
  simp[q]
 rw[e]at h;exact h
theorem RR(g c:Nat)(zs:List Int)(z:Int)(w:Y)(F:zs.length<=1048576)(i:zs.Pairwise (· < ·))(h:Rd w 1 (sG g zs c) zs (Ad As zs))(A:z∈zs):
 Ai Ap 131 #[sG g zs c,z] w λe m=>(∃b,e=Al (Ao #[iZ (zs.idxOf z:Nat),An b]))/\∃q,m=w.drewN q:=by
 have p:∀j,j< ↑zs->w ⟨g,0+j,M⟩=K ↑(zs.getD j 0):= λj s=>by
  rcases h.2 with⟨D,_⟩|⟨E,G,c',f,d⟩
  . omega
  simp only[i8,kI,mE,mV,lB]at f;obtain⟨⟨rfl,rfl⟩,rfl⟩:=f;have:=d j (zs.getD j 0) (by rw[C5];simp[List.getD_eq_getElem?_getD,List.getElem?_eq_getElem s]);exact this
 have d:=AnyG.slices_BinarySearch_int Tryz.lSearch g 0 zs c zs z w lR oM p (by rw[k8 lR];exact i.imp (λh=>oM));rw[k8 lR]at d;have e:∀(l:List Int),l.Pairwise (· < ·)->z∈l->l.countP (λx=>decide (x<z))=l.idxOf z:=by
  intro l;induction l with
  |nil=>intro _ h;cases h
  | cons y r B=>
    intro u t;obtain⟨k,C⟩:=lg.1 u;by_cases q:y=z
    . subst q;rw[List.countP_cons_of_neg sP,List.idxOf_cons_self];exact List.countP_eq_zero.2 (λa n=>by have:=k a n;simp;omega)
    rcases kY.1 t with e|e
    . exact absurd e.symm q
    have:=k z e;rw[List.countP_cons_of_pos (by simpa using this),B C e,oF];rw[show(y==z)=false from by simpa using q];rfl
 refine d.mono ?_;rintro f m ⟨rfl,v⟩;rw[e zs i A];exact⟨⟨_,rfl⟩,v⟩
theorem MI.jD{xs:List MI}{g o n e:Nat}{x:MI}(f:∀j v,(Ad MI.cells xs)[j]?=K v->w ⟨g,o+j,M⟩=K v)(h:xs[e]?=K x)(d:Ah w w u):u ⟨g,o+e*4,M⟩=K ↑x.op/\u ⟨g,o+e*4+1,M⟩=K ↑x.a/\u ⟨g,o+e*4+2,M⟩=K ↑x.b/\u ⟨g,o+e*4+3,M⟩=K ↑x.c:=by have i:=Rd.elem MI.dr f e _ h 0 _ rfl;have k:=Rd.elem MI.dr f e _ h 1 _ rfl;have l:=Rd.elem MI.dr f e _ h 2 _ rfl;have m:=Rd.elem MI.dr f e _ h 3 _ rfl;rw[<-d.cell (hC i),kJ]at i;rw[<-d.cell (hC k)]at k;rw[<-d.cell (hC l)]at l;rw[<-d.cell (hC m)]at m;exact⟨i,k,l,m⟩
theorem LE(s:J)(xs:List MI)(w:Y)(R:xs.length<=1048576)(h:Rd w 4 s xs (Ad MI.cells xs)):
 Ai Ap 128 #[s] w λe T=>AJ e (Ei xs)/\Ah w w T:=by
 have H:Ae (Rd w 4 s xs (Ad MI.cells xs)):=h;obtain⟨a1,c1,rfl⟩:=h.dk;clear h;generalize I:xs.length=n at R H;have v:Ae (↑xs=n):=I
 clear I;go_enter func128,ntmps128;go_wp2;go_loopw [7] (λi wr=>∃k:Nat,k<=n/\i=iZ k/\Ae ((∀j,j<k->∀x,xs[j]?=K x->A6 x=true->0<=x.c/\x.c<(n:Int))/\Ah w w wr)) (λi _=>n-(intOf i).toNat)
 case atStart=>exact⟨0,oM,rfl,⟨λj O=>oM,kS _ _⟩⟩
 obtain⟨k,hk,rfl,l⟩:=hrel;by_cases B:k<n
 . obtain ⟨x,C⟩:∃x,xs[k]?=K x:=⟨_,an (by rw[v];exact B)⟩;have z:Ae (xs[k]?=K x):=C;rcases H.2 with⟨e0,_⟩|⟨g,o,c,G,L⟩
   . omega
   simp only[i8,lB]at G;obtain⟨rfl,rfl⟩:=G;obtain⟨U,V,W,X⟩:=MI.jD (n:=0) L C l.2;clear L C;have ae:(k:Int)<(n:Int):=oM;(go_upto_region 4 with fail);refine Ax (λu=>Ae (AC u wr #[x.op,x.a,x.b,x.c] 72/\Ah w w u)) ⟨AC.new _ _ _,Ar l.2 lR (Aq _ _)⟩ ?_
   intro U1 p;clear U V W X;obtain⟨a0,D,E,F⟩:=OZ p.1;go_wp2_with fail;refine(Cw x _).mono ?_;rintro e t ⟨rfl,A⟩;have q:Ae (AC t wr #[x.op,x.a,x.b,x.c] 72/\Ah w w t):=⟨p.1.a7 A,Ar p.2 lR A⟩
   clear A a0 D E F p;obtain⟨a0,D,E,F⟩:=OZ q.1;cases hgo:A6 x
   . have m:Ae ((∀j,j<k+1->∀x,xs[j]?=K x->A6 x=true->0<=x.c/\x.c<(n:Int))/\Ah w w t):=⟨λj O y f d=>by
      by_cases e:j=k
      . subst e;rw[z]at f;(cases f);rw[hgo]at d;cases d
      exact l.1 j oM y f d,q.2⟩
     go_wp2;go_roundw;(case rel=>exact⟨k+1,oM,by go_num,m⟩);exact oI
   . go_wp2_with fail;refine(M8 x.c n _ oM).mono ?_;rintro e u3 ⟨rfl,P⟩;have S:=P.symm;clear P;subst S;by_cases r:0<=x.c/\x.c<(n:Int)
     . rw [show decide (0<=x.c/\x.c<(n:Int))=true from by simpa using r]
       have m:Ae ((∀j,j<k+1->∀x,xs[j]?=K x->A6 x=true->0<=x.c/\x.c<(n:Int))/\Ah w w t):=⟨λj O y f d=>by
        by_cases e:j=k
        . subst e;rw[z]at f;(cases f);exact r
        exact l.1 j oM y f d,q.2⟩
       go_wp2;go_roundw;(case rel=>exact⟨k+1,oM,by go_num,m⟩);exact oI
     rw[show decide (0<=x.c/\x.c<(n:Int))=false from by simpa using r]
     (have m:Ae (¬Ei xs):= λe=>r (by have:=e k x z hgo;rw[v]at this;exact this));go_wp2;go_ret;exact⟨.no m,q.2⟩
 have Q:Ae (Ei xs):= λi x N d=>by have B:=(i6.1 N).1;rw[v]at B⊢;exact l.1 i oM x N d
 go_wp2;go_ret;exact⟨.gY Q,l.2⟩
structure NP(w U:Y)(V:J)(ns:List Int):Prop where
 e8:Ah w w U
 row:Ab U w 2 1 V ns (Ad As ns)
theorem NP.a7{c:List Int}(h:NP w U V c)(b:Ah U U a):NP w a V c:=⟨Ar h.e8 lR b,Aw h.row b lR⟩
theorem NP.gX{w U b:Y}{a:List Int}{m:Nat}(h:NP w U V a)(g:Ab b w 2 1 V' m (Ad As a++[iZ z]))(f:m= ↑a+1)(d:(Ac U (Ak #[iZ z] 2)).grownBy b V.ownBlock):NP w b V' (a++[z]):=by have c:=Aq U (Ak #[z] 2);refine⟨(Ar h.e8 lR c).grown d (kV h.e8.size c.size) (λi e=>(h.row.lt i e).1),?_⟩;rw[kE,kK,<-f,lL];exact g
section
variable {E:Nat->List Nat} {D:Nat->Nat->Bool} {n h b k y:Nat}
def Ct(E:Nat->List Nat)(D:Nat->Nat->Bool)(h b k:Nat):List Nat:=(((E b).take k).filter λx=>decide (x=h)&&D h b).map λ_=>b
theorem IB(E:Nat->List Nat)(D:Nat->Nat->Bool)(b h:Nat):AH E D (b+1) h=AH E D b h++Ct E D h b (E b).length:=by unfold AH Ct;rw[mw,lL];simp
theorem KU(E:Nat->List Nat)(D:Nat->Nat->Bool)(h b:Nat):Ct E D h b 0=[]:=by simp[Ct]
theorem MU(d:(E b)[k]?=K h)(a:D h b=true):Ct E D h b (k+1)=Ct E D h b k++[b]:=by obtain⟨c,e⟩:=i6.1 d;unfold Ct;rw[kU c,mh,mF,e];simp[a]
theorem I6(d:(E b)[k]?=K y)(c:¬(y=h/\D h b=true)):Ct E D h b (k+1)=Ct E D h b k:=by
 obtain⟨a,e⟩:=i6.1 d;unfold Ct;rw[kU a,mh,mF,e];have:(decide (y=h)&&D h b)=false:=by
  cases q:D h b with
  |false=>simp
  |true=>simp;exact λe=>c ⟨e,q⟩
 simp[this]
theorem JB(E:Nat->List Nat)(D:Nat->Nat->Bool)(h b k:Nat):(Ct E D h b k).length<=(E b).length:=by unfold Ct;rw[lC];refine kV (mW _ _) ?_;rw[lh];omega
theorem FY(a:∀b,(E b).length<=2)(D:Nat->Nat->Bool)(h b:Nat):(AH E D b h).length<=2*b:=by
 induction b with
 |zero=>simp[AH]
 | succ b e=>have c:=JB E D h b (E b).length;have d:=a b;rw[IB,kE];omega
def Yo(E:Nat->List Nat)(D:Nat->Nat->Bool)(n h x:Nat):Prop:=∃t∈AH E D n h,DR (Bs E n) (· ≠h) t x
structure QI(E:Nat->List Nat)(D:Nat->Nat->Bool)(n h:Nat)(L:List Nat):Prop where
 nodup:L.Nodup
 ne:∀x∈L,x≠h
 lt:∀x∈L,x<n
 src:∀x∈L,Yo E D n h x
theorem QI.len(a:QI E D n h L): ↑L<=n:=by have:=Fv L n a.lt a.nodup;omega
theorem QI.nil:QI E D n h []:=⟨List.nodup_nil, λ_ q=>(by cases q), λ_ q=>(by cases q), λ_ q=>(by cases q)⟩
theorem QI.add(d:QI E D n h L)(l:y≠h)(k:y<n)(m:Yo E D n h y)(i:y∉L):QI E D n h (L++[y]):=by
 have f:∀x,x∈L++[y]->x∈L\/x=y:= λx b=>by simpa using b
 refine⟨nG.2 ⟨d.nodup,sP, λa j c g e=> ?_⟩, λx b=> ?_, λx b=> ?_, λx b=> ?_⟩
 . simp only[kY,lG,mS]at g;subst g e;exact i j
 . rcases f x b with q|rfl
   . exact d.ne x q
   exact l
 . rcases f x b with q|rfl
   . exact d.lt x q
   exact k
 rcases f x b with q|rfl
 . exact d.src x q
 exact m
def SD(h:Nat)(L B:List Nat):Prop:=∀x∈B,x=h\/x∈L
theorem SD.gX(a:SD h L B)(z:Nat):SD h (L++[z]) B:= λx b=>(a x b).imp id λq=>kO.2 (.inl q)
theorem SD.next{L b B:List Nat}(c:SD h L (B.take k))(f:∀x∈L,x∈b)(g:B[k]?=K y)(d:y=h\/y∈b):SD h b (B.take (k+1)):= λz a=>by
 obtain⟨e,rfl⟩:=i6.1 g;rw[kU e]at a;rcases kO.1 a with a|a
 . exact(c z a).imp id (f z)
 simp only[kY,lG,mS]at a;subst a;exact d
def Vd(E:Nat->List Nat)(n h:Nat)(L:List Nat)(i:Nat):Prop:=∀j x,L[j]?=K x->j<i->∀y,y<n->x∈E y->y=h\/y∈L
def NO(E:Nat->List Nat)(h:Nat)(L:List Nat)(x b:Nat):Prop:=∀y,y<b->x∈E y->y=h\/y∈L
theorem Vd.gX{i:Nat}(b:Vd E n h L i)(f:i<= ↑L)(z:Nat):Vd E n h (L++[z]) i:= λj x a c y e d=>by rw[lO oM]at a;exact(b j x a c y e d).imp id λq=>kO.2 (.inl q)
theorem NO.gX(a:NO E h L x b)(z:Nat):NO E h (L++[z]) x b:= λy d c=>(a y d c).imp id λq=>kO.2 (.inl q)
theorem NO.next(c:NO E h L x b)(d:x∈E b->b=h\/b∈L):NO E h L x (b+1):= λy f a=>by
 by_cases e:y=b
 . subst e;exact d a
 exact c y oM a
theorem Vd.next{i:Nat}(d:Vd E n h L i)(g:L[i]?=K x)(f:NO E h L x n):Vd E n h L (i+1):= λj z a k y b c=>by
 by_cases e:j=i
 . subst e;rw[g]at a;(cases a);exact f y b c
 exact d j z a oM y b c
theorem QI.step(a:QI E D n h L)(i:x∈L)(e:b<n)(f:x∈E b)(g:b≠h):Yo E D n h b:=by obtain⟨t,c,d⟩:=a.src x i;exact⟨t,c,.step d ((CK E n x b).2 ⟨e,f⟩) g⟩
theorem QI.iff(b:QI E D n h L)(e:SD h L (AH E D n h))(f:Vd E n h L L)(x:Nat):(h::L).contains x=true↔AR E D n h x:=by
 simp only[List.contains_eq_mem,mB,kY];unfold AR;refine or_congr_right ⟨b.src x,?_⟩;rintro⟨t,c,d⟩;induction d with
 |here q=>exact(e t c).resolve_left q
 | step _ i k g=>obtain⟨j,a⟩:=lH g;obtain⟨l,m⟩:=(CK E n _ _).1 i;exact(f j _ a (i6.1 a).1 _ l m).resolve_left k
end
theorem Pf(h:Nat)(L:List Nat)(y n:Nat):∀j,j<n->(h::(L++[y])).contains j=if j=y then true else(h::L).contains j:= λj _=>by
 by_cases e:j=y
 . subst e;simp
 simp[e]
theorem Oc:(Tryz.prog.info? 85).map (λi=>(i.zero,i.size,i.bytes))=K (K (Am #[iZ 0,sN,sN]),3,56):=kR
structure L1(w u:Y)(n h bl gi:Nat)(BV:J)(B:List Nat):Prop where
 gU:AC u w #[iZ 0,sN,sN] 85
 gK:AC u bl #[h,BV,sN] 85
 gW:Gm u w gi n (λx=>[h].contains x)
 back:Gh u w BV B
 e8:Ah w w u
 lt: ↑w<bl
theorem L1.al{n h b c:Nat}{a:J}(l:L1 w u n h b c a B)(o:Obj):Ab (u.alloc o) w 2 1 a B (nv B)/\ ↑w<=(u.alloc o).heap.size:=⟨l.back.a7 (Aq _ _),kV l.e8.size (Aq _ _).size⟩
theorem L1.gX{w u b:Y}{n h d k:Nat}{y:Nat}(l:L1 w u n h d k g B)(s:Ab b w 2 1 V' (B.length+1) (nv B++[iZ (y:Int)]))(j:(Ac u (Ak #[iZ (y:Int)] 2)).grownBy b g.ownBlock):AC b d #[iZ (h:Int),g,sN] 85/\L1 w (Aa b ⟨d,1,M⟩ V') n h d k V' (B++[y]):=by
 have c:=Aq u (Ak #[y] 2);have r:=l.back.a7 c;have f:AC b d #[h,g,sN] 85:=(l.gK.a7 c).grown j r dC;have A:=(l.gU.a7 c).grown j r dC;have t:Gm b w k n (λx=>[h].contains x):=BJ (l.gW.a7 c) j r dC;have v:Ah w w b:=(Ar l.e8 lR c).grown j (kV l.e8.size c.size) (λi z=>(l.back.lt i z).1);refine⟨f,A.other (by have:=l.lt;simp only[];omega) _,?_,?_,?_,v.setCell (nw l.lt) _,l.lt⟩
 . have:=f.set 1 V';simpa using this
 . (refine t.other λe=> ?_);obtain⟨_,D,m⟩:=AD t;subst e;unfold AC at f;rw[f]at m;simp only[kI,mg]at m;exact absurd m.2.1 dC
 unfold Gh;rw[kE,kK,Fx];refine kN s (a:=⟨d,1,M⟩) (λq=> ?_) _;rcases s.2 with⟨rfl,_⟩|⟨F,C,E,rfl,_,p,_⟩
 . cases q
 simp only[Value.ownBlock,kI]at q;subst q;unfold AC at f;rw[f]at p;simp only[kI,mg]at p;exact absurd p.2.1 dC
theorem L1.a7{n h c d:Nat}{b:J}(l:L1 w u n h c d b B)(a:Ah u u e):L1 w e n h c d b B:=⟨l.gU.a7 a,l.gK.a7 a,l.gW.a7 a,l.back.a7 a,Ar l.e8 lR a,l.lt⟩
structure L2(w w1 u:Y)(n gi:Nat)(P:Nat->Bool)(LV:J)(L:List Nat):Prop where
 gW:Gm u w gi n P
 list:Gh u w1 LV L
 fx:∀k,k< ↑w1->k≠gi->u.heap[k]?=w1.heap[k]?
 e8:Ah w w u
 size:(w1:Nat)<= ↑u
 glt:gi< ↑w1
theorem L2.mark{n a:Nat}{LV:J}(l:L2 w d u n a P LV L)(i:Nat)(b:Bool)(e:∀j,j<n->Q j=if j=i then b else P j):L2 w d (Aa u ⟨a,i,M⟩ b) n a Q LV L:=⟨l.gW.set i b e,BE l.list l.gW dC i _, λk f c=>by rw[lY u _ k _ c];exact l.fx k f c,l.e8.setCell (AD l.gW).1 _,by rw[lr];exact l.size,l.glt⟩
theorem L2.al{n b:Nat}{LV:J}(l:L2 w a u n b P LV L)(o:Obj):Ab (u.alloc o) a 2 1 LV L (nv L)/\ ↑a<=(u.alloc o).heap.size:=⟨l.list.a7 (Aq _ _),kV l.size (Aq _ _).size⟩
theorem L2.a7{n b:Nat}{LV:J}(l:L2 w e u n b P LV L)(a:Ah u u d):L2 w e d n b P LV L:=⟨l.gW.a7 a,l.list.a7 a, λk c f=>by rw[a.block k (lq c l.size)];exact l.fx k c f,Ar l.e8 lR a,kV l.size a.size,l.glt⟩
theorem L2.gX{n g:Nat}{LV V':J}{y:Nat}(l:L2 w c u n g P LV L)(hw:(w:Nat)<= ↑c)(m:Ab f c 2 1 V' (L.length+1) (nv L++[iZ (y:Int)]))(b:(Ac u (Ak #[iZ (y:Int)] 2)).grownBy f LV.ownBlock):L2 w c f n g P V' (L++[y]):=by
 have a:=Aq u (Ak #[y] 2);have p:=l.list.a7 a;refine⟨BJ (l.gW.a7 a) b p dC,?_, λk d j=> ?_,(Ar l.e8 lR a).grown b (kV l.e8.size a.size) (λi h=>kV hw (l.list.lt i h).1),kV l.size (kV a.size b.size),l.glt⟩
 . unfold Gh;rw[kE,kK,Fx];exact m
 rw[b.block k (lq d (kV l.size a.size)) (λe=>by have:=(l.list.lt k e.symm).1;omega),a.block k (lq d l.size)];exact l.fx k d j
theorem L2.gK{n c:Nat}{LV:J}(l:L2 w e u n c P LV L){b:Nat}{a:Array J}(d:AC e b a t)(f:b≠c):AC u b a t:=by unfold AC at*;rw[l.fx b (kM.1 d).1 f];exact d
theorem L2.cell{n b:Nat}{LV:J}(l:L2 w d u n b P LV L){a:Addr}{x:J}(c:d a=K x)(e:a.block≠b):u a=K x:=by have:=l.fx a.block (hC c) e;unfold World.cell? at*;rw[this];exact c
theorem Gh.fx{base:Nat}(h:Gh a base s l)(e:∀k,k< ↑a->k≠x->u.heap[k]?=a.heap[k]?)(i:∀g,s.ownBlock=K g->g≠x):Gh u base s l:=by
 refine⟨h.1,?_⟩;rcases h.2 with h|⟨g,cap,c,rfl,d,b,f⟩
 . exact .inl h
 refine .inr ⟨g,cap,c,rfl,d,?_,f⟩;rw[e g (kM.1 b).1 (i g rfl)];exact b
theorem Gh.iX{base b:Nat}{a:Array J}(h:Gh w base s l)(c:AC w b a t)(d:2≠t):∀g,s.ownBlock=K g->g≠b:=BF h c d
theorem Gm.congr{base g n:Nat}(h:Gm w base g n P)(a:∀i,i<n->P i=Q i):Gm w base g n Q:=by unfold Gm at*;rw[I7 a]at h;exact h
structure L4(w w2 u:Y)(n h bl gi:Nat)(BV KV:J)(K:List Nat)(P:Nat->Bool):Prop where
 gU:AC u w #[iZ 0,sN,sN] 85
 gK:AC u bl #[h,BV,KV] 85
 gW:Gm u w gi n P
 row:Gh u w2 KV K
 fx:∀k,k< ↑w2->k≠bl->u.heap[k]?=w2.heap[k]?
 e8:Ah w w u
 size:(w2:Nat)<= ↑u
 blt:bl< ↑w2
theorem L4.al{w b u:Y}{n h e f:Nat}{d c:J}{a:List Nat}(l:L4 w b u n h e f d c a P)(o:Obj):Ab (u.alloc o) b 2 1 c a (nv a)/\ ↑b<=(u.alloc o).heap.size:=⟨l.row.a7 (Aq _ _),kV l.size (Aq _ _).size⟩
theorem L4.gX{r:Y}{n h c s:Nat}{m:J}{j:List Nat}{y:Nat}(l:L4 w r u n h c s g m j P)(hw: ↑w<c)(A:Ab d r 2 1 V' (j.length+1) (nv j++[iZ (y:Int)]))(f:(Ac u (Ak #[iZ (y:Int)] 2)).grownBy d m.ownBlock):AC d c #[iZ (h:Int),g,m] 85/\L4 w r (Aa d ⟨c,2,M⟩ V') n h c s g V' (j++[y]) P:=by
 have b:=Aq u (Ak #[y] 2);have x:=l.row.a7 b;have p:AC d c #[h,g,m] 85:=(l.gK.a7 b).grown f x dC;have F:=(l.gU.a7 b).grown f x dC;have B:Gm d w s n P:=BJ (l.gW.a7 b) f x dC;have E:(w:Nat)<=r.heap.size:=by have:=l.blt;omega
 have C:Ah w w d:=(Ar l.e8 lR b).grown f (kV l.e8.size b.size) (λi D=>kV E (l.row.lt i D).1);refine⟨p,F.other oS _,?_,?_,?_, λk v z=> ?_,C.setCell (nw hw) _,?_,l.blt⟩
 . have:=p.set 2 V';simpa using this
 . (refine B.other λe=> ?_);obtain⟨_,G,t⟩:=AD B;subst e;unfold AC at p;rw[p]at t;simp only[kI,mg]at t;exact absurd t.2.1 dC
 . unfold Gh;rw[kE,kK,Fx];refine kN A (a:=⟨c,2,M⟩) (λq=> ?_) _;have:=(A.lt c q).1;have:=l.blt;omega
 . rw[lY d _ k _ z,f.block k (lq v (kV l.size b.size)) (λe=>by have:=(l.row.lt k e.symm).1;omega),b.block k (lq v l.size)];exact l.fx k v z
 rw[lr];exact kV l.size (kV b.size f.size)
theorem RN(xs:List MI)(x:MI)(e:Nat)(a:EO x=true/\e+1< ↑xs)(b:¬A6 x=true):AY xs x e=[]++[((e:Int)+1)]:=by unfold AY;rw[kZ a,kP (λq=>b q.1)];rfl
theorem RI(xs:List MI)(x:MI)(e:Nat)(a:EO x=true/\e+1< ↑xs)(b:A6 x=true)(h:x.c=((e+1:Nat):Int)):AY xs x e=[]++[((e:Int)+1)]:=by unfold AY;rw[kZ a,kP (λq=>q.2 ⟨a.1,a.2,h⟩)];rfl
theorem RL(xs:List MI)(x:MI)(e:Nat)(a:EO x=true/\e+1< ↑xs)(b:A6 x=true)(h:¬x.c=((e+1:Nat):Int)):AY xs x e=[]++[((e:Int)+1)]++[x.c]:=by unfold AY;rw[kZ a,kZ ⟨b, λq=>h q.2.2⟩];rfl
theorem RJ(xs:List MI)(x:MI)(e:Nat)(a:¬(EO x=true/\e+1< ↑xs))(b:A6 x=true):AY xs x e=[]++[x.c]:=by unfold AY;rw[kP a,kZ ⟨b, λq=>a ⟨q.1,q.2.1⟩⟩]
theorem RM(xs:List MI)(x:MI)(e:Nat)(a:¬(EO x=true/\e+1< ↑xs))(b:¬A6 x=true):AY xs x e=[]:=by unfold AY;rw[kP a,kP (λq=>b q.1)];rfl
theorem Qp{q:Prop}(h:q:=by
 obtain⟨x0,x1,x2,x3⟩:=MI.jD (n:=0) HC HX HU1.e8;go_wp2_with fail;refine(Cw x _).mono ?_;rintro e4 u4 ⟨rfl,b4⟩;have HU4:Ae (NP w u4 sN []):=HU1.a7 b4;clear b4;clear x0 x1 x2 x3;cases hgo:A6 x
 . go_wp2;go_ret;exact⟨_,rfl,by rw[RM xs x e h1 (by rw[hgo];exact mY)];exact HU4.row,HU4.e8⟩
 obtain⟨hc0,hc1⟩:=HG.o e x HX hgo;go_wp2_with fail;refine(In M 0 x.c _).mono ?_;rintro e5 u5 ⟨rfl,hu⟩;have hu2:=hu.symm;clear hu;subst hu2;go_wp2_with (at_builtin;refine wpList_append_lies _ rfl _ _ 46 rfl w 2 k0 (iZ 0) 1 8 underlying46 hk hx0 hx1 hx2 rfl (by decide) _ ([]:List Int).length (Ad As ([]:List Int)) rfl (HU4.a7 (Aq _ (Ak #[iZ (x.c)] 2))).row u4 1 1 [iZ (x.c)] rfl rfl (Bw u4 (x.c)) (λu hu=>by simp at hu;subst hu;rfl) (by omega) (by simp[maxLen]) (by simp) (HU4.a7 (Aq _ (Ak #[iZ (x.c)] 2))).e8.size _ rfl ?_;intro g3 cap3 w3 hown hgrow hat hlt3;have HU5:Ae (NP w w3 (sG g3 (0+1) cap3) ([]++[x.c])):=HU4.gX hown rfl hgrow;clear hown hgrow hat hlt3);go_wp2;go_ret;exact⟨_,rfl,by rw[RJ xs x e h1 hgo];exact HU5.row,HU5.e8⟩):q:=h
theorem Hn(s:J)(xs:List MI)(x:MI)(e:Nat)(w:Y)(D:xs.length<=1024)(y:Ei xs)(b:xs[e]?=K x)(h:Rd w 4 s xs (Ad MI.cells xs)):
 Ai Ap 130 #[s,e] w λm z=>∃r,m=Al r/\Ab z w 2 1 r (AY xs x e).length (Ad As (AY xs x e))/\Ah w w z:=by
 obtain⟨k0,hk,hx0,hx1,hx2⟩:=lS Bp;have C:e<xs.length:=(i6.1 b).1;have HX:Ae (xs[e]?=K x):=b;have HG:Ae (Ei xs):=y;rcases h.2 with⟨F,_⟩|⟨g,o,c,rfl,hc1⟩
 . omega
 have HC:Ae (∀j v,(Ad MI.cells xs)[j]?=K v->w ⟨g,o+j,M⟩=K v):=hc1;clear h hc1 y b;generalize p:xs.length=n at D C;have f:Ae (↑xs=n):=p
 clear p;have H:(e:Int)<(n:Int):=oM;have i:Ae (NP w w sN []):=⟨kS _ _,lQ _ _ _ _⟩;obtain⟨x0,x1,x2,x3⟩:=MI.jD (n:=0) HC HX (kS w w);go_enter func130,ntmps130;go_wp2_with fail;refine(Lj x _).mono ?_;rintro m d ⟨rfl,l⟩;have HU1:Ae (NP w d sN []):=i.a7 l;clear l x0 x1 x2 x3 i;cases hon:EO x
 . have h1:¬(EO x=true/\e+1< ↑xs):= λq=>by rw[hon]at q;exact absurd q.1 mY
   exact Qp
 go_wp2_with fail;refine(M8 ((e:Int)+1) n _ oM).mono ?_;rintro G I ⟨rfl,hu⟩;have hu2:=hu.symm;clear hu;subst hu2;by_cases t:e+1<n
 . have h1:EO x=true/\e+1<xs.length:=⟨hon,by rw[f];exact t⟩
   rw[show decide (0<=(e:Int)+1/\(e:Int)+1<(n:Int))=true from oT]
   obtain⟨x0,x1,x2,x3⟩:=MI.jD (n:=0) HC HX HU1.e8;go_wp2_with (at_builtin;refine wpList_append_lies _ rfl _ _ 46 rfl w 2 k0 (iZ 0) 1 8 underlying46 hk hx0 hx1 hx2 rfl dC _ ([]:List Int).length (Ad As ([]:List Int)) rfl (HU1.a7 (Aq _ (Ak #[iZ ((e:Int)+1)] 2))).row d 1 1 [iZ ((e:Int)+1)] rfl rfl (Bw d ((e:Int)+1)) (λu hu=>by simp at hu;subst hu;rfl) oM (by simp[maxLen]) sP (HU1.a7 (Aq _ (Ak #[iZ ((e:Int)+1)] 2))).e8.size _ rfl ?_;intro g3 cap3 w3 hown hgrow hat hlt3;have k:Ae (NP w w3 (sG g3 (0+1) cap3) ([]++[(e:Int)+1])):=HU1.gX hown rfl hgrow;clear hown hgrow hat hlt3;obtain⟨x0,x1,x2,x3⟩:=MI.jD (n:=0) HC HX k.e8);go_wp2_with fail;refine(Cw x _).mono ?_;rintro e4 u4 ⟨rfl,b4⟩;have HU4:Ae (NP w u4 (sG g3 (0+1) cap3) ([]++[((e:Int)+1)])):=k.a7 b4;clear b4;clear x0 x1 x2 x3;cases hgo:A6 x
   . go_wp2;go_ret;exact⟨_,rfl,by rw[RN xs x e h1 (by rw[hgo];exact mY)];exact HU4.row,HU4.e8⟩
   obtain⟨hc0,hc1⟩:=HG.o e x HX hgo;have f5:=HU4.row.cellAt 0 sP;simp only[lu,lD,As,lK,i9]at f5;go_wp2_with fail;refine(N3 g3 cap3 ((e:Int)+1) x.c _ f5).mono ?_;rintro e5 u5 ⟨rfl,hu⟩;have hu2:=hu.symm;clear hu;subst hu2;by_cases a:x.c=(e:Int)+1
   . rw[show decide (x.c=(e:Int)+1)=true from by simpa using a];go_wp2;go_ret;exact⟨_,rfl,by rw[RI xs x e h1 hgo (by rw[a];push_cast;rfl)];exact HU4.row,HU4.e8⟩
   rw[show decide (x.c=(e:Int)+1)=false from by simpa using a];go_wp2_with (at_builtin;refine wpList_append_lies _ rfl _ _ 46 rfl w 2 k0 (iZ 0) 1 8 underlying46 hk hx0 hx1 hx2 rfl dC _ (([]++[((e:Int)+1)]):List Int).length (Ad As (([]++[((e:Int)+1)]):List Int)) rfl (HU4.a7 (Aq _ (Ak #[iZ (x.c)] 2))).row u4 1 1 [iZ (x.c)] rfl rfl (Bw u4 (x.c)) (λu hu=>by simp at hu;subst hu;rfl) oM (by simp[maxLen]) sP (HU4.a7 (Aq _ (Ak #[iZ (x.c)] 2))).e8.size _ rfl ?_;intro B A E hown hgrow hat hlt3;have HU5:Ae (NP w E (sG B ((([]++[((e:Int)+1)]):List Int).length+1) A) (([]++[((e:Int)+1)])++[x.c])):=HU4.gX hown rfl hgrow;clear hown hgrow hat hlt3);go_wp2;go_ret;exact⟨_,rfl,by rw[RL xs x e h1 hgo (λq=>a (by rw[q];push_cast;rfl))];exact HU5.row,HU5.e8⟩
 have h1:¬(EO x=true/\e+1< ↑xs):= λq=>t (by rw[<-f];exact q.2)
 rw[show decide (0<=(e:Int)+1/\(e:Int)+1<(n:Int))=false from oT]
 exact Qp
end Go.Proofs.YtmalfecapdmdbaaGreat
