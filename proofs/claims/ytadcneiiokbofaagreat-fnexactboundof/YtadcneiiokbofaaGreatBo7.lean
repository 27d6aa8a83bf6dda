import Derived.Test.YtadcneiiokbofaaGreatBo6
import Derived.Deep.LoopGhost
namespace Go.Proofs.YtadcneiiokbofaaGreat
open Go.ChangeShapes Go.WideShapes Go.ChangeAt Go.RowKit Go.Proofs.Tryz
set_option linter.unusedVariables false
open Go.Value renaming slice → Z,bool → An,tuple → Ao,int → Ag,agg → Am
open Option renaming some → K,none → M
open Go renaming Value → J,World → Y,Calls → Ai,TypeId → Aj
open Go.RowKit renaming Hid → Ae,Below → Ah
open Go.Proofs.Tryz renaming prog → Ap
open Go.IntKind renaming i64 → Af
open Go.Obj renaming cells → Ak
open Go.Ending renaming returned → Al
open Go.World renaming setCell → Aa,ownsRow → Ab,alloc → Ac
open List renaming flatMap → Ad
set_option maxHeartbeats 8000000
set_option maxRecDepth 100000
variable {V V' g s:J}{R S O l L B:List Nat}{P Q:Nat->Bool}{w u c e f d:Y}{x i:Nat}{a A:Array J}{t:Aj}{xs:List MI}{F:List (MB×J)}{I:Nat->Int}
def Bl(fs:List MF):Prop:=¬fs.length=0/\fs.length<=32/\(∀j,j<fs.length->∀f,fs[j]?=K f->CP f)/\∀f,fs[0]?=K f->RD f
theorem M0(s:J)(fs:List MF)(w:Y)(hL:fs.length<=1048576)(hs:∀f∈fs,f.small)(h:JU w s fs):
 Ai Ap 85 #[s] w λe w'=>AM e (Bl fs)/\Ah w.heap.size w w':=by
 obtain⟨xs,V,U,ao⟩:=h;have au:xs.length=fs.length:=by rw[<-V];simp
 have d:=Av (d5 U (d5 V (d5 ao (d5 hs au))));obtain⟨a1,c1,rfl⟩:=U.bW;generalize ae:fs.length=n at hL d;have z:=Av ae;by_cases E:n=0
 . subst E;(have t:Ae (¬Bl fs):= λe=>e.1 z);go_enter func85,ntmps85;go_wp2;go_ret;exact⟨.no t,lu _ _⟩
 have aF:((n:Int)==0)=false:=by simpa using E
 by_cases q1:32<n
 . (have t:Ae (¬Bl fs):= λe=>absurd e.2.1 (by rw[z];omega));have aw:(32:Int)<(n:Int):=oM;go_enter func85,ntmps85;go_wp2;go_ret;exact⟨.no t,lu _ _⟩
 have aw:¬(32:Int)<(n:Int):=oM;go_enter func85,ntmps85;go_wp2;go_loopw [15] (λi wr=>∃k:Nat,k<=n/\i=iZ k/\Ae (∀j,j<k->∀f,fs[j]?=K f->CP f)/\Ae (Ah w w wr)) (λi _=>n-(intOf i).toNat)
 case atStart=>exact⟨0,oM,rfl, λj hj=>oM,lu _ _⟩
 obtain⟨k,hk,rfl,I,l⟩:=hrel;by_cases T:k<n
 . obtain⟨⟨f,v⟩,p⟩:∃x,xs[k]?=K x:=⟨_,an (by rw[d.2.2.2.2];exact T)⟩;have m:=BF d.2.1 p;have a:=Av (d5 ((d.2.2.1 _ (lA p)).a7 l lR) (d5 (d.2.2.2.1 _ (lA m)) m));rcases d.1.2 with⟨e0,_⟩|⟨b,o,c,m,y⟩
   . omega
   simp only[lB,mB]at m;obtain⟨rfl,rfl⟩:=m;have q:=Rd.elem Az y k _ p 0 _ rfl;have r:=Rd.elem Az y k _ p 1 _ rfl;have C:=Rd.elem Az y k _ p 2 _ rfl;have D:=Rd.elem Az y k _ p 3 _ rfl;rw[<-l.cell (g8 q),lJ]at q;rw[<-l.cell (g8 r)]at r;rw[<-l.cell (g8 C)]at C;rw[<-l.cell (g8 D)]at D;simp only[]at q r C D;obtain⟨L,N,A⟩:=a.1.1.bW;obtain⟨al,cl,P⟩:=a.1.2.1.bW;obtain⟨ac,cc,O⟩:=a.1.2.2.bW;obtain⟨vp,vl,vc⟩:=v;simp only[]at A P O q r C D;subst A P O;have nb:¬b=wr.heap.size:=mR (g8 q);have mb:b<wr.heap.size:=g8 q;go_wp2_with fail;(have A1:= λW (hW:Ah wr wr W)=>MZ ⟨Z L f.gU N,Z al f.gW cl,Z ac f.bO cc⟩ f W a.2.1 (a.1.a7 hW lR));refine(A1 _ (Aq _ _)).mono ?_;rintro e u ⟨⟨b0,rfl,Q⟩,am⟩;have G:Ae (Ah w w u):=Ar l lR (Ar (Aq _ _) lR am);cases b0
   . (have t:Ae (¬Bl fs):= λe=>by have:=e.2.2.1 k (by rw[z];exact T) f a.2.2;simp[this]at Q);go_wp2;go_ret;exact⟨.no t,G⟩
   have HC:Ae (CP f):=Q.1 rfl;go_wp2;go_roundw;(case rel=>exact⟨k+1,oM,by go_num,CO a.2.2 HC I,G⟩);exact oI
 have aq:n=k:=oM;subst aq;obtain⟨⟨f,v⟩,p⟩:∃x,xs[0]?=K x:=⟨_,an (by rw[d.2.2.2.2];omega)⟩;have m:=BF d.2.1 p;have a:=Av (d5 ((d.2.2.1 _ (lA p)).a7 l lR) (d5 (d.2.2.2.1 _ (lA m)) m));rcases d.1.2 with⟨e0,_⟩|⟨b,o,c,m,y⟩
 . omega
 simp only[lB,mB]at m;obtain⟨rfl,rfl⟩:=m;have q:=Rd.elem Az y 0 _ p 0 _ rfl;have r:=Rd.elem Az y 0 _ p 1 _ rfl;rw[<-l.cell (g8 q)]at q;simp only[Nat.zero_mul,lJ]at q;rw[<-l.cell (g8 r),Nat.zero_mul,lJ]at r;obtain⟨L,N,A⟩:=a.1.1.bW;obtain⟨vp,vl,vc⟩:=v;simp only[]at A q r;subst A;have H:Ae (Bl fs↔RD f):=by show _↔_;refine⟨λe=>e.2.2.2 f a.2.2, λe=>⟨by rw[z];exact E,by rw[z];omega,by rw[z];exact I, λg S=> ?_⟩⟩;rw[a.2.2]at S;exact(lP S)▸e
 have aE:=a.2.1.1;generalize ah:f.gU.length=X at*;generalize aj:f.gV=R at*;have B:=Av (d5 ah aj);have aA:(0:Int)<(n:Int):=oM;by_cases F:X=0
 . subst F;(have HY:Ae ((R==0)=true↔Bl fs):=by show _↔_;rw[H.o,beq_iff_eq];exact⟨λe=>⟨B.1,B.2.trans e⟩, λe=>B.2.symm.trans e.2⟩);go_wp2;go_ret;exact⟨.of HY,l⟩
 have aG:((X:Int)==0)=false:=by simpa using F
 have t:Ae (¬Bl fs):= λe=>F (B.1.symm.trans (H.1 e).1)
 go_wp2;go_ret;exact⟨.no t,l⟩
def JK(n g:Nat):J:=sG g n n
theorem Yd:(Tryz.prog.info? 80).map (λi=>(i.zero,i.size,i.bytes))=K (K sN,1,24):=kR
structure DM(w u:Y)(n:Nat)(V:J)(R:List Nat)(P:Nat->Nat->Bool):Prop where
 o:Ab u w 80 1 V R (R.map (JK n))
 rows:∀i g,R[i]?=K g->GK u w g n (P i)
 nodup:R.Nodup
 ej:Ah w w u
theorem DM.a7{w u b:Y}{n:Nat}{P:Nat->Nat->Bool}(h:DM w u n V R P)(a:Ah u u b):DM w b n V R P:=⟨Aw h.o a lR, λi g c=>(h.rows i g c).a7 a,h.nodup,Ar h.ej lR a⟩
theorem GK.lt{base g n:Nat}(h:GK w base g n P):g<w.heap.size:=by obtain⟨_,b,a⟩:=AD h;exact(lK.1 a).1
theorem GK.other{base g b n i:Nat}{x:J}(h:GK w base g n P)(c:g≠b):GK (Aa w ⟨b,i,M⟩ x) base g n P:=lI h (a:=⟨b,i,M⟩) (λe=>c (by simpa[Value.ownBlock]using e)) x
theorem DM.set{n:Nat}{P Q:Nat->Nat->Bool}(h:DM w u n V R P){b g d:Nat}{x:Bool}(c:R[b]?=K g)(r:∀j,j<n->Q b j=if j=d then x else P b j)(p:∀i,i≠b->Q i=P i):DM w (Aa u ⟨g,d,M⟩ x) n V R Q:=by
 have f:=h.rows b g c;refine⟨BT h.o f dC d _, λi m a=> ?_,h.nodup,h.ej.setCell (AD f).1 _⟩;by_cases e:i=b
 . subst e;rw[c]at a;(cases a);exact f.set d x r
 rw[p i e];refine(h.rows i m a).other λq=>e ?_
 subst q;obtain⟨s,k⟩:=i8.1 a;obtain⟨t,l⟩:=i8.1 c;exact(List.getElem_inj h.nodup).1 (k.trans l.symm)
theorem DM.add{w u d k:Y}{n:Nat}{P:Nat->Nat->Bool}(h:DM w u n V R P)(r:∀i,i= ↑R->P i= λ_=>false)(q:Ab d u 4 1 (sG u n n) n (bv (λ_=>false) n))(t:Ah u u d)(y:Ab k w 80 1 V' (R.length+1) (R.map (JK n)++[JK n u]))(j:(Ac d (Ak #[JK n u] 80)).grownBy k V.ownBlock):DM w k n V' (R++[u.heap.size]) P:=by
 have l:=Aq d (Ak #[JK n u] 80);have f:Ah u u (Ac d (Ak #[JK n u] 80)):=Ar t lR l;have p:=Aw h.o f lR;have z:GK (Ac d (Ak #[JK n u] 80)) w u n (λ_=>false):=Bb (Aw q l lR) h.ej.size;refine⟨by rw[lG,lL,m9];exact y, λi g b=> ?_,?_,(Ar h.ej lR f).grown j (lQ h.ej.size f.size) (λi b=>(h.o.lt i b).1)⟩
 . by_cases e:i< ↑R
   . rw[mP e]at b;exact B3 ((h.rows i g b).a7 f) j p dC
   have x:=(i8.1 b).1;simp only[lG,lL]at x;have v:i=R.length:=oM;rw[lY oM]at b;subst v;simp only[nM,lC,lH]at b;subst b;rw[r _ rfl];exact B3 z j p dC
 refine oH.2 ⟨h.nodup,sP, λa s c m e=> ?_⟩;simp only[lw,mK,nJ]at m;subst m;obtain⟨i,b⟩:=mJ s;have:=(h.rows i a b).lt;omega
theorem J9(U:Y)(x:J)(t:Aj):∀j u,[x][j]?=K u->(Ac U (Ak #[x] t)) ((⟨U,0,M⟩:Addr).add j)=K u:= λj u a=>by rw[CQ,mQ,(AA.new U #[x] t).cell j];simpa using a
def He(w:Y)(g n:Nat)(D:Nat->Nat->Bool):Prop:=∀b,b<n->∃r,w ⟨g,b,M⟩=K (sG r n n)/\∀d,d<n->w ⟨r,d,M⟩=K ↑(D b d)
theorem He.a7{g n:Nat}{D:Nat->Nat->Bool}(h:He w g n D)(a:Ah w w c):He c g n D:= λb i=>by obtain⟨r,e,f⟩:=h b i;exact⟨r,Au a e, λd j=>Au a (f d j)⟩
theorem DM.cell{n g c m:Nat}{P:Nat->Nat->Bool}(h:DM w u n (sG g m c) R P)(d: ↑R=m){b:Nat}(a:b<m):∃r,R[b]?=K r/\u ⟨g,b,M⟩=K (sG r n n):=by subst d;have:=h.o.cellAt b oM;rw[mE,an a]at this;exact⟨_,an a,this⟩
theorem DM.mat{n g c:Nat}{P:Nat->Nat->Bool}(h:DM w u n (sG g n c) R P)(i: ↑R=n):He u g n P:= λb j=>by obtain⟨r,a,e⟩:=h.cell i (b:=b) oM;exact⟨r,e, λd f=>(h.rows b r a).cell f⟩
theorem R7(g o c n:Nat)(E:Nat->List Nat)(D:Nat->Nat->Bool)(w:Y)(hn:n<=1048576)(h0:0<n)(hD:∀d b,D d b=true↔C9 E d b)(hE:∀b,b<n->∀x∈E b,x<n)(aE:∀b,(E b).length<=2)(h:KP w g o n E):
 Ai Ap 69 #[sO g o n c] w λe w'=>∃f l,e=Al (sG f n l)/\He w' f n (λb d=>D d b)/\Ah w w w'/\ ↑w<=f/\(∀b r,b<n->w'.cell? ⟨f,b,M⟩=K (sG r n n)-> ↑w<=r):=by
 obtain⟨j0,hj,aS,aT,aU⟩:=mN D8;obtain⟨k0,s,aP,aQ,aR⟩:=mN Yd;have H:=Av (d5 h (d5 hE (d5 aE hD)));clear h hE aE hD;have HS:Ae (DM w (Ac w (Ak #[] 80)) n (sG w 0 0) [] (λ_ _=>false)):=by refine⟨?_, λi g p=>by simp at p,List.nodup_nil,Aq _ _⟩;exact⟨rfl,.inr ⟨w,0,#[],rfl,Nat.le_refl _,AA.new w #[] 80,Nat.le_refl _,nZ _,rfl,rfl⟩⟩
 go_enter func69,ntmps69;go_wp2;go_loopw [4,5] (λV i wr=>∃(R:List Nat) (f l:Nat),V=sG f R l/\i=iZ (R:Int)/\ ↑R<=n/\Ae (DM w wr n V R (λ_ _=>false))) (λ_ i _=>n-(intOf i).toNat)
 case atStart=>exact⟨[],_,_,rfl,rfl,sP,HS⟩
 clear HS;obtain⟨R,f,l,rfl,rfl,hR,a⟩:=hrel;by_cases S: ↑R<n
 . have aJ:(R:Int)<(n:Int):=oM;have aY:=a.o.ej.size;go_wp2_with (first
    |(at_make;refine mm _ rfl _ _ 80 rfl wr 4 j0 false 1 underlying80 hj aS aT Af Af _ _ n rfl rfl rfl rfl (by rw[aU];omega) oX lR ?_;intro B W ao;rw[DJ,Io]at W;have L:Ah wr wr B:=(lu _ _).grown ao lR (λk s=>by cases s);have au:Ab (Ac B (Ak #[JK n wr] 80)) w 80 1 (sG f R l) R (R.map (JK n)):=Aw a.o.o (Ar L lR (Aq _ _)) lR;have aA: ↑w<=(Ac B (Ak #[JK n wr] 80)).heap.size:=by have m:=L.size;have z:=(Aq B (Ak #[JK n wr] 80)).size;omega)
    |(at_builtin;refine wpList_append_lies _ rfl _ _ 134 rfl w 80 k0 sN 1 24 underlying134 s aP aQ aR rfl dC _ R (R.map (JK n)) rfl au B 1 1 [JK n wr] rfl rfl (J9 B _ _) (λu hu=>by simp at hu;subst hu;rfl) oM (by simp[maxLen];omega) oM aA _ rfl ?_;intro g5 aj w5 aw aq aH aI;have aF:Ae (DM w w5 n (sG g5 (R.length+1) aj) (R++[wr.heap.size]) (λ_ _=>false)):=a.o.add (λ_ _=>rfl) W L aw aq;clear W ao aw aq aH aI L au aA)
    |go_in)
   go_roundw;(case rel=>exact⟨R++[wr.heap.size],g5,aj,by rw[lG,lL],by rw[lG,lL];go_num,by rw[lG,lL];omega,aF⟩);exact oI
 have G: ↑R=n:=oM
 have C:=Av G;rw[G]at a;rw[G];clear S hR G;have ae:Ae (DM w wr n (sG f n l) R (λi k=>decide (k<0)&&D k i)):=by
  have:(λi k=>decide (k<0)&&D k i)=(λ(_ _:Nat)=>false):=by funext i k;simp
  show DM w wr n _ R _;rw[this];exact a.o
 clear a;go_wp2;go_loopw [6] (λi wr=>∃d:Nat,d<=n/\i=iZ d/\Ae (DM w wr n (sG f n l) R (λi k=>decide (k<d)&&D k i))) (λi _=>n-(intOf i).toNat)
 case atStart=>exact⟨0,oM,rfl,ae⟩
 clear ae;obtain⟨d,hd,rfl,a⟩:=hrel;by_cases S:d<n
 . have aJ:(d:Int)<(n:Int):=oM;go_wp2_with fail;refine(Sc g o c n 0 (d:Int) E _ hn H.o.2.1 H.o.2.2.1 h0 (H.o.1.a7 a.o.ej)).mono ?_;rintro e u2 ⟨v,P,rfl,O,am,b2⟩;have N:Ae (GK u2 wr v n P/\(∀x,x<n->(!P x)=D d x)/\ ↑wr<=v):=by refine⟨O, λx hx=> ?_,(AD O).1⟩;rw[oR,H.o.2.2.2 d x];unfold C9;have F:Ef E (λy=>(y:Int)≠(d:Int)) 0 x↔Ef E (· ≠d) 0 x:=⟨λq=>q.mono λy hy e=>hy (by rw[e]), λq=>q.mono λy hy e=>hy oM⟩;rw[<-F,<-am x hx];simp
   (have ah:Ae (DM w u2 n (sG f n l) R (λi k=>(decide (k<d)||(decide (k=d)&&decide (i<0)))&&D k i)):=by (have F:(λi k=>(decide (k<d)||(decide (k=d)&&decide (i<0)))&&D k i)=(λi k=>decide (k<d)&&D k i):=by funext i k;simp);show DM w u2 n _ R _;rw[F];exact a.o.a7 b2);have HR:Ae ((∀i r,R[i]?=K r->r<wr.heap.size)/\w.heap.size<=wr.heap.size):=⟨λi r p=>(a.o.rows i r p).lt,a.o.ej.size⟩
   clear O am b2 a;go_wp2;go_loopw [8] (λi wr=>∃b:Nat,b<=n/\i=iZ b/\Ae (DM w wr n (sG f n l) R (λi k=>(decide (k<d)||(decide (k=d)&&decide (i<b)))&&D k i)/\GK wr w v n P)) (λi _=>n-(intOf i).toNat)
   (case atStart=>exact⟨0,oM,rfl,ah.o,Bb N.o.1 HR.o.2⟩);clear ah;obtain⟨b,I,rfl,a⟩:=hrel;by_cases T:b<n
   . have aX:(b:Int)<(n:Int):=oM;obtain⟨r,A,c0⟩:=a.o.1.cell C.o T;have c1:=a.o.2.cell T;have X:=a.o.1.rows b r A;have c2:=X.cell S;have z2:=X.frozen d;(have aM:v≠r:=by have:=HR.o.1 b r A;have:=N.o.2.2;omega);have t:Ae (DM w (Aa wr ⟨r,d,M⟩ (An (!P b))) n (sG f n l) R (λi k=>(decide (k<d)||(decide (k=d)&&decide (i<b+1)))&&D k i)/\GK (Aa wr ⟨r,d,M⟩ (An (!P b))) w v n P):=by
      refine⟨a.o.1.set A (λj hj=> ?_) (λi p=> ?_),a.o.2.other aM⟩
      . by_cases e:j=d
        . subst e;simp[N.o.2.1 b T]
        simp[e]
      (funext k);have:decide (i<b+1)=decide (i<b):=oT;simp[this]
     clear A X;go_wp2;go_region;refine AY (λu=>Ae (DM w u n (sG f n l) R (λi k=>(decide (k<d)||(decide (k=d)&&decide (i<b+1)))&&D k i)/\GK u w v n P)) ?_ ?_
     . exact⟨t.o.1.a7 (At _),t.o.2.a7 (At _)⟩
     intro U HU;go_wp2;go_roundw;(case rel=>exact⟨b+1,oM,by go_num,HU⟩);exact oI
   obtain rfl:b=n:=oM;have t:Ae (DM w wr b (sG f b l) R (λi k=>decide (k<d+1)&&D k i)):=by
    refine⟨a.o.1.o, λi r p=> ?_,a.o.1.nodup,a.o.1.ej⟩;have m:=a.o.1.rows i r p;unfold GK at m⊢;rw[Jr (Q:= λk=>decide (k<d+1)&&D k i)]at m
    . exact m
    intro k s;(have aW:i<b:=by have:=(i8.1 p).1;rw[C.o]at this;exact this);(have F:(decide (k<d)||(decide (k=d)&&decide (i<b)))=decide (k<d+1):=by rw[oR];simp;omega);simp only[F]
   go_wp2;go_roundw;(case rel=>exact⟨d+1,oM,by go_num,t⟩);exact oI
 obtain rfl:d=n:=oM;have t:Ae (He wr f d (λb k=>D k b)):= λb I=>by obtain⟨r,m,z⟩:=a.o.mat C.o b I;refine⟨r,m, λk s=> ?_⟩;have:=z k s;simpa[s]using this
 have aG:Ae (Ab wr w 80 1 (sG f d l) d (R.map (JK d))):=by have:=a.o.o;rw[C.o]at this;exact this
 go_wp2;go_ret;refine⟨f,l,rfl,t.o,a.o.ej,(AD aG.o).1, λb r I A=> ?_⟩;obtain⟨r',m,z⟩:=a.o.cell C.o (b:=b) I;rw[A]at z;simp only[lH,lB,nF,nU]at z;rw[z];exact(AD (a.o.rows b r' m)).1
theorem Zi(w:Y):(zeroValue 56).run Ap w=.ok (.agg #[]) w:=kR
theorem Jz(b a:Nat)(D:DataW Unit)(z:Int)(w:Y)(d:Dv z)(h:AP w b a D):
 Ai Ap 120 #[.map (K b),z] w λe f=>e=Al (Go.Maps.has D (.int Af z))/\Ah w w f:=by
 have c:w.ownsMap Ap 2 (unitElem (H:=Unit)) b a D:=h;go_enter func120,ntmps120;go_wp2_with (at_lookup;refine wpList_lookup_own_unit _ rfl _ _ 158 rfl 2 56 EY underlying158 (Zi _) b a D rfl c _ _ rfl (oD underlying2 d) ?_);go_ret;exact⟨rfl,Aq _ _⟩
theorem UM(b:Nat)(w:Y):
 Ai Ap 110 #[.map (K b),Z M 0 0] w λe a=>e=Al (.tuple #[])/\a=w:=by
 go_enter func110,ntmps110;go_wp2;go_loopw [8] (λi wr=>i=.int Af 0/\wr=w) (λ_ _=>0)
 case atStart=>exact⟨rfl,rfl⟩
 obtain⟨rfl,rfl⟩:=hrel;go_wp2;go_end0;exact⟨rfl,rfl⟩
def Gj(w:Y)(g o n:Nat)(E:Nat->List Nat):Prop:=∀b,b<n->∃a c,w ⟨g,o+b,M⟩=K (Z a (E b).length c)/\Jo w (Z a (E b).length c) (E b)
theorem Gj.a7{g o n:Nat}{E:Nat->List Nat}(h:Gj w g o n E)(d:Ah w w e):Gj e g o n E:= λb j=>by obtain⟨a,c,f,i⟩:=h b j;exact⟨a,c,Au d f,i.a7 d⟩
def XH(c a d b:Nat):J:=.func (.func 166) #[] #[.pointer c,.pointer a,.pointer d,.pointer b]
structure PO(w u:Y)(n bm bs be bw bl:Nat)(EV V:J)(S O:List Nat):Prop where
 set:∃cnt D,AP u bm cnt D/\cnt+A8 S n<=n+1/\∀x:Nat,Go.Maps.has D (.int Af (x:Int))=S.contains x
 sb:AA u bs #[.map (K bm)] 158
 eb:AA u be #[EV] 22
 wb:AA u bw #[XH bs be bw bl] 239
 lb:AA u bl #[V] 29
 list:GE u w V O
 ej:Ah w w u
 ge: ↑w<=bm/\ ↑w<=bl
 len: ↑O+A8 S n<=n
theorem PO.a7{i:Y}{n e f c g d:Nat}{b V:J}(h:PO w u n e f c g d b V S O)(a:Ah u.heap.size u i):PO w i n e f c g d b V S O:=by obtain⟨j,D,k,l,m⟩:=h.set;exact⟨⟨j,D,k.a7 a,l,m⟩,h.sb.a7 a,h.eb.a7 a,h.wb.a7 a,h.lb.a7 a,h.list.a7 a,Ar h.ej lR a,h.ge,h.len⟩
theorem AA.gb{b:Nat}{row:Option Nat}(h:AA w b a t)(d:w.grownBy c row)(e:K b≠row):AA c b a t:=by unfold AA at*;rw[d.block b (lK.1 h).1 e];exact h
theorem Ml{b a f:Nat}{D:DataW Unit}{g:Array J}(h:AP w b f D)(d:AA w a g t):a≠b:= λe=>by obtain⟨j,i,c,_⟩:=h;subst e;unfold AA at d;rw[d]at c;cases c
theorem Mm{base k n b d:Nat}{e:Aj}{v:J}{xs:List J}{D:DataW Unit}(h:Ab w base e k v n xs)(i:AP w b d D):K b≠v.ownBlock:=by
 obtain⟨m,j,f,_⟩:=i;intro a;rcases h.2 with⟨rfl,_⟩|⟨g,cap,l,rfl,_,c,_⟩
 . cases a
 simp only[Value.ownBlock,lH]at a;subst a;rw[f]at c;cases c
theorem PO.add{i:Y}{n a r p s q d b:Nat}{l:J}{D:DataW Unit}(h:PO w u n a r p s q l V S O)(f:AP u a d D)(F:d+A8 S n<=n+1)(z:∀x:Nat,Go.Maps.has D (.int Af (x:Int))=S.contains x)(A:b<n)(B:b∉S)(E:AP i a (d+1) (D.put (.int Af (b:Int)) (.agg [])))(c:u.grownBy i (K a)):PO w i n a r p s q l V (b::S) O:=by
 have G:=EO S n b A B;have ne:∀{m:Nat} {y:Array J} {t:Aj},AA u m y t->K m≠K a:= λk e=>Ml f k (lP e)
 refine⟨⟨_,_,E,oM, λx=> ?_⟩,h.sb.gb c (ne h.sb),h.eb.gb c (ne h.eb),h.wb.gb c (ne h.wb),h.lb.gb c (ne h.lb),Dz h.list c (λg v e=>by rw[e]at v;exact Mm h.list f v.symm),h.ej.grown c h.ej.size (λj C=>by cases C;exact h.ge.1),h.ge,by have:=h.len;omega⟩;rw[Er D (nV f),z x];by_cases e:x=b
 . subst e;simp
 have:¬(x:Int)=(b:Int):=oM;simp[e,this]
theorem PO.al{n d e b f c:Nat}{a:J}(h:PO w u n d e b f c a V S O)(o:Obj):Ab (u.alloc o) w 2 1 V O (nv O)/\ ↑w<=(u.alloc o).heap.size:=⟨h.list.a7 (Aq _ _),lQ h.ej.size (Aq _ _).size⟩
theorem PO.ir{n l v s x d b:Nat}{p:J}(h:PO w u n l v s x d p V S O)(A:Ab f w 2 1 V' (O.length+1) (nv O++[.int Af (b:Int)]))(g:(Ac u (Ak #[.int Af (b:Int)] 2)).grownBy f V.ownBlock)(Q: ↑O+1+A8 S n<=n):AA f d #[V] 29/\PO w (f.setCell d V') n l v s x d p V' S (O++[b]):=by
 have G:=Aq u (Ak #[b] 2);have c:=h.a7 G;obtain⟨y,D,z,I,L⟩:=c.set;have F:AP f l y D:=World.ownsMap.kept z g (Mm c.list z);have j:AA f d #[V] 29:=c.lb.grown g c.list dC;have C:=c.sb.grown g c.list dC;have B:=c.eb.grown g c.list dC;have E:=c.wb.grown g c.list dC;have N:Ah w w f:=c.ej.grown g c.ej.size (λi P=>(c.list.lt i P).1);have m:∀{r:Nat} {H:Array J} {t:Aj},AA f r H t->t≠29->r≠(⟨d,0,M⟩:Addr).block:= λk q e=>by simp only[]at e;subst e;unfold AA at k j;rw[j]at k;simp only[lH,nL]at k;exact q k.2.1.symm
 refine⟨j,⟨y,D,?_,I,L⟩,C.other (m C dC) _,B.other (m B dC) _,E.other (m E dC) _,?_,?_,N.setCell h.ge.2 _,h.ge,by rw[lG,lL];exact Q⟩
 . refine World.ownsMap.kept F (row:=K d) ⟨rfl,rfl,rfl,by rw[mc];exact Nat.le_refl _, λk T R=>mS f _ k _ (λe=>R (by rw[e]))⟩ (λe=>Ml F j (lP e).symm)
 . have:=j.set 0 V';simpa using this
 unfold GE;rw[lG,lL,FQ];exact lI A (a:=⟨d,0,M⟩) (λq=>Bt A j dC d q rfl) _
def Hb(xs:List MI)(p:Int):Int:=((CV xs xs).idxOf p.toNat:Int)
def KU(xs:List MI)(x:MB×J):MB×J:=(⟨x.1.gZ,x.1.last,x.1.next.map (Hb xs)⟩,x.2)
theorem UY(xs:List MI)(c:AZ xs)(D:List (MB×J))(h:D.map Prod.fst=KZ xs):(D.map (KU xs)).map Prod.fst=AL xs:=by
 have g:(D.map (KU xs)).map Prod.fst=(D.map Prod.fst).map λb=>⟨b.gZ,b.last,b.next.map (Hb xs)⟩:=by rw[oP,oP];rfl
 rw[g,h];unfold KZ AL;rw[oP];apply oG;intro m d;obtain⟨b,i⟩:=mJ d;obtain⟨e,a,j⟩:=JB xs xs c.1 m d;obtain⟨x,f⟩:∃x,xs[e]?=K x:=⟨_,an j⟩;have k:=NM xs b e x m c i a f;simp only[Function.comp,Ua,Fb];rw[a,lD,lN,f];simp only[ov];rw[k];rfl
theorem QE(xs:List MI)(j:AZ xs)(m:MB)(k:m∈KZ xs)(p:Int)(d:p∈m.next):0<=p/\p.toNat∈CV xs xs:=by
 unfold KZ at k;obtain⟨n,l,rfl⟩:=mG.1 k;obtain⟨b,g⟩:=mJ l;obtain⟨e,h,i⟩:=JB xs xs j.1 n l;obtain⟨x,f⟩:∃x,xs[e]?=K x:=⟨_,an i⟩;simp only[Ua]at d;rw[h,lD,lN,f]at d;simp only[ov,Bg]at d;rcases lT.1 d with a|a
 . split at a
   . rename_i q;simp only[lw,mK,nJ]at a;subst a;rw[Cr]at g;refine⟨oM,?_⟩;rw[lD];exact Lx _ _ _ _ _ g h q.2
   cases a
 split at a
 . rename_i q;simp only[lw,mK,nJ]at a;subst a;obtain⟨c0,c1⟩:=j.2.2 e x f q.1;have c3:(x.c.toNat:Int)=x.c:=oZ c0;exact⟨c0,(CH _ _ _).2 ⟨oM,JC xs _ e _ x i f (by simp[F7,q.1,c3])⟩⟩
 cases a
theorem WP(L:List Nat)(q:Nat):(L.map Int.ofNat).idxOf (q:Int)=L.idxOf q:=by
 induction L with
 |nil=>rfl
 | cons y r c=>
   rw[nQ,pI,pI,c];by_cases h:y=q
   . subst h;simp
   (have a:(Int.ofNat y==(q:Int))=false:=by rw[o9];intro e;exact h (by have d:(y:Int)=(q:Int):=e;omega));(have b:(y==q)=false:=by simpa using h);rw[a,b]
structure JW(w u:Y)(xs:List MI)(gl cl bl:Nat)(F:List (MB×J)):Prop where
 row:Ab u w 90 3 (sG bl (CV xs xs).length (CV xs xs).length) (CV xs xs).length (Ad B4 F)
 io:Cl u w ((sG gl (CV xs xs).length cl,(CV xs xs).map Int.ofNat)::DK F)
 ej:Ah w w u
theorem JW.a7{c cl b:Nat}(h:JW w u xs c cl b F)(a:Ah u u d):JW w d xs c cl b F:=⟨Aw h.row a lR,h.io.a7 a,Ar h.ej lR a⟩
theorem JW.drew{b cl a:Nat}(h:JW w u xs b cl a F)(k:Nat):JW w (u.drewN k) xs b cl a F:=⟨⟨h.row.1,h.row.2⟩,⟨λr c=>⟨(h.io.own r c).1,(h.io.own r c).2⟩,h.io.sep⟩,⟨h.ej.os,h.ej.tape,h.ej.output,h.ej.size,h.ej.block⟩⟩
theorem JW.set{e cl j b c n:Nat}{E G:List (MB×J)}{f l:Int}{a g:List Int}{z:Int}(h:JW w u xs e cl j (E++(⟨f,l,a⟩,sG b n c)::G))(p: ↑a=n)(r:(Ad As a).set i (iZ z)=Ad As g)(q:g.length= ↑a):JW w (Aa u ⟨b,i,M⟩ (iZ z)) xs e cl j (E++(⟨f,l,g⟩,sG b n c)::G):=by
 have d:=h.io.own (sG b n c,a) (by simp[DK]);simp only[]at d;rw[p]at d;have k:=(d.stored i (iZ z)).1;rw[r]at k;refine⟨?_,?_,h.ej.setCell (AD d).1 _⟩
 . have:=BT h.row d dC i (iZ z);simpa[B4]using this
 have m:=h.io;rw[show(((sG e (CV xs xs).length cl,(CV xs xs).map Int.ofNat):J×List Int)::DK (E++((⟨f,l,a⟩:MB),(sG b n c:J))::G))=(((sG e (CV xs xs).length cl,(CV xs xs).map Int.ofNat):J×List Int)::DK E)++((sG b n c:J),a)::DK G from by simp[DK]]at m;have:=Cl.put (c':=g) m q (by rw[p];exact k) (LK ⟨rfl,rfl,rfl,Nat.le_refl _, λ_ _ _=>rfl⟩ i (iZ z));simpa[DK]using this
theorem JW.search{a cl f m:Nat}(h:JW w u xs a cl f F)(d:(CV xs xs).length=m)(n:m<=1024)(p:Int)(l:0<=p)(g:p.toNat∈CV xs xs):
 Ai Ap 140 #[sG a m cl,iZ p] u λe i=>(∃b,e=Al (.tuple #[iZ (Hb xs p),.bool b]))/\∃q,i=u.drewN q:=by
 have c:=Rd.ij (h.io.own _ mV);simp only[mD]at c;have k:=SH a cl ((CV xs xs).map Int.ofNat) p u (by rw[mD,d];omega) (nm.2 ((C4 xs _).imp (λh=>by simpa using h))) (by rw[mD];exact c) (mG.2 ⟨p.toNat,g,oT⟩);have e:((CV xs xs).map Int.ofNat).idxOf p=(CV xs xs).idxOf p.toNat:=by have j:p=(p.toNat:Int):=oM;rw[<-WP];congr 1
 rw[mD,d,e]at k;exact k
theorem Us(xs:List MI)(a:List Int)(i:Nat)(p:Int)(h:a[i]?=K p):(Ad As ((a.map (Hb xs)).take i++a.drop i)).set i (iZ (Hb xs p))=Ad As ((a.map (Hb xs)).take (i+1)++a.drop (i+1)):=by
 obtain⟨b,c⟩:=i8.1 h;rw[mq b,c,mH,mF];have d:(Ad As (List.take i (a.map (Hb xs)))).length=i:=by rw[AE As 1 Ay,mY,mD];omega
 rw[show As p++List.flatMap As (List.drop (i+1) a)=[Value.int Af p]++List.flatMap As (List.drop (i+1) a)from rfl,Wc _ _ _ _ i d,l8 (by simpa using b),mH,mH];simp[As,c]
theorem Dh(h:x<=1048576):Dv (x:Int):=by simp[Dv,Lit.wf,IntKind.min,IntKind.max,IntKind.signed,IntKind.bits];omega
theorem Wk(w:Y)(g o c n j l p q f:Nat)(E:Nat->List Nat)(hn:n<=1024)(hE:∀b,b<n->∀x∈E b,x<n)(aF:∀b,(E b).length<=2048)(h:Gj w g o n E):
 ∀(m:Nat) (S O:List Nat) (b:Nat) (V:J) (u:Y),A8 S n=m->b<n->PO w u n j l p q f (sO g o n c) V S O->(b∉S-> ↑O+A8 S n<=n)->
 Ai Ap 166 #[(b:Int),.pointer (K ⟨l,0,M⟩),.pointer (K ⟨p,0,M⟩),.pointer (K ⟨q,0,M⟩),.pointer (K ⟨f,0,M⟩)] u λe u'=>e=Al (Ao #[])/\∃V' S' d,Vs E S O [b] S' d/\PO w u' n j l p q f (sO g o n c) V' S' d/\d.length+A8 S' n<=O.length+A8 S n:=by
 obtain⟨k0,hk,aS,aT,aU⟩:=mN Br;have H:=Av (d5 h (d5 hE aF));clear h hE aF;intro m;induction m using Nat.strongRecOn with
 | ind m ih=>
   intro S O b V u hm N Q au;have IH:Ae (∀m',m'<m->∀(S O:List Nat) (b:Nat) (V:J) (u:Y),A8 S n=m'->b<n->PO w u n j l p q f (sO g o n c) V S O->(b∉S-> ↑O+A8 S n<=n)->
    Ai Ap 166 #[(b:Int),.pointer l,.pointer p,.pointer q,.pointer f] u λe u'=>e=Al (Ao #[])/\∃V' S' d,Vs E S O [b] S' d/\PO w u' n j l p q f (sO g o n c) V' S' d/\ ↑d+A8 S' n<= ↑O+A8 S n):=ih
   have HP:=Av Q;obtain⟨ae,D,hs,ao,hD⟩:=Q.set;have A:=Av (d5 hs (d5 ao hD));have am:=hD b;have s0:u l=K (.map (K j)):=Q.sb.cell 0;have bf:(b:Int)<(n:Int):=oM;clear ih Q hs hD;go_enter func166,ntmps166;go_wp2_with fail;refine(Jz j ae D (b:Int) u (Dh oM) A.1).mono ?_;rintro e s ⟨rfl,W⟩;rw[am];have z:=Av (d5 (HP.a7 W) (A.1.a7 W));clear W s0 am;cases hc:S.contains b
   . (have P:b∉S:=by simpa using hc);have aG:=EO S n b N P;have F:=Av (d5 aG (d5 hm (au P)));clear aG hm au;have s0:s l=K (.map (K j)):=z.1.sb.cell 0;have t:Ae ((Ac s (Ak #[(b:Int)] 2)) s=K ↑(b:Int)/\AP (Ac s (Ak #[(b:Int)] 2)) j ae D/\PO w (Ac s (Ak #[(b:Int)] 2)) n j l p q f (sO g o n c) V S O/\¬ ↑s=j):=⟨(AA.new s #[(b:Int)] 2).cell 0,z.2.a7 (Aq _ _),z.1.a7 (Aq _ _),by have:=nj z.2;omega⟩
     go_wp2_with fail;refine(Db j ae s 1 D (b:Int) _ (Dh oM) (by have:=A.2.1;omega) t.1 t.2.2.2 t.2.1).mono ?_;rintro e u2 ⟨rfl,s2,g2⟩;have B:=Av (t.2.2.1.add t.2.1 A.2.1 A.2.2 N P s2 g2);clear s2 g2 s0 t z A HP ao;obtain⟨a,ca,L,g1⟩:=H.1 b N;have HG:=Av (d5 L g1);(replace L:=Au B.ej L);have e0:u2 p=K (sO g o n c):=B.eb.cell 0;have aX:=H.2.2 b;clear g1;go_wp2;go_loopw [20] (λi wr=>∃(S' d:List Nat) (V':J) (k:Nat),i=iZ k/\k<=(E b).length/\Ae (Vs E (b::S) O ((E b).take k) S' d/\PO w wr n j l p q f (sO g o n c) V' S' d/\ ↑d+A8 S' n+1<= ↑O+A8 S n)) (λi _=>(E b).length-(intOf i).toNat)
     (case atStart=>exact⟨b::S,O,V,0,rfl,oM,by simpa using Vs.nil (b::S) O,B,by have:=F.o;omega⟩);clear B L e0;obtain⟨S',d,V',k,rfl,bg,r⟩:=hrel;by_cases aP:k<(E b).length
     . have bi:(k:Int)<((E b).length:Int):=oM;obtain⟨y,R⟩:∃y,(E b)[k]?=K y:=⟨_,an aP⟩;have aW:y<n:=H.2.1 b N y (lA R);obtain⟨ga,oa,rfl,_,y0⟩:=HG.2.at_ R;(replace y0:=Au r.2.1.ej y0);have f0:wr q=K (.func (.func 166) #[] #[.pointer l,.pointer p,.pointer q,.pointer f]):=r.2.1.wb.cell 0;(have HT:Ae ((E b).take (k+1)=(E b).take k++[y]):=by obtain⟨hl,rfl⟩:=i8.1 R;exact l8 hl);have aw:=r.1.more;have aR:=Ih n aw;have HC:=Av (IH.o (A8 S' n) (by have:=F.o;omega) S' d y V' wr rfl aW r.2.1 (λ_=>by have:=r.2.2;have:=F.o;omega));clear R aw aR;go_wp2_with fail;refine HC.mono ?_;rintro e u3 ⟨rfl,V3,I,G,aH,aE,aM⟩;have HN:Ae (Vs E (b::S) O ((E b).take (k+1)) I G/\PO w u3 n j l p q f (sO g o n c) V3 I G/\ ↑G+A8 I n+1<= ↑O+A8 S n):=by refine⟨?_,aE,by have:=r.2.2;omega⟩;rw[HT];exact r.1.ir aH
       clear aH aE aM y0 f0 HC;go_wp2;go_roundw;(case rel=>exact⟨I,G,V3,k+1,by go_num,oM,HN⟩);exact oI
     obtain rfl:k=(E b).length:=oM;obtain⟨T,X,rfl⟩:=AF r.2.1.list;have aY:=F.o;have aZ:=r.2.2;(go_upto_region 7 with fail);refine Ax (λu=>Ae (PO w u n j l p q f (sO g o n c) (Z T d X) S' d)) r.2.1 ?_;intro U C;have l0:U f=K (Z T d X):=C.lb.cell 0;go_wp2_with (at_builtin;refine wpList_append_lies _ rfl _ _ 29 rfl w 2 k0 (iZ 0) 1 8 underlying29 hk aS aT aU rfl dC _ d (nv d) rfl (C.al (Ak #[(b:Int)] 2)).1 U 1 1 [(b:Int)] rfl rfl (BM U (b:Int)) (λu hu=>by simp at hu;subst hu;rfl) oM (by simp[maxLen];omega) oM (C.al (Ak #[(b:Int)] 2)).2 _ rfl ?_;intro g5 aj w5 aA aq aJ aQ;obtain⟨ah,l5⟩:=C.ir aA aq oM;have aI:Ae (PO w (w5.setCell f (sG g5 (d.length+1) aj)) n j l p q f (sO g o n c) (sG g5 (d.length+1) aj) S' (d++[b])):=l5;have t5:w5 f=K (Z T d X):=ah.cell 0;have z5:=ah.frozen 0;clear aA aq aJ aQ ah l5);go_end0;refine⟨rfl,_,S',d++[b],?_,aI,by rw[lG,lL];omega⟩;have:=r.1;rw[mC lR]at this;exact .new P this (.nil _ _)
   go_wp2_with fail;exact lO (v:=Ao #[]) (by simp[results,results166,go_sem]) rfl ⟨rfl,V,S,O,.old (by simpa using hc) (.nil _ _),z.1,Nat.le_refl _⟩
def Jt(D:Nat->Nat->Bool)(d j:Nat):Nat:=((List.range j).filter λk=>D k d).length
theorem RP(D:Nat->Nat->Bool)(d j:Nat):Jt D d (j+1)=Jt D d j+if D j d=true then 1 else 0:=by unfold Jt;rw[nW,nY,lG];cases h:D j d<;>simp[h]
theorem UQ(D:Nat->Nat->Bool)(d j:Nat):Jt D d j<=j:=by have:=nP (λk=>D k d) (List.range j);simpa[Jt]using this
theorem Mu{q:Prop}(h:q:=by
 go_wp2;go_roundw;case rel=>exact⟨d+1,best,most,by omega,by trivial,by trivial,by go_num,hm1,hm2,HN,by trivial⟩
 simp[intOf];omega):q:=h
theorem R9(f r n b:Nat)(D:Nat->Nat->Bool)(w:Y)(P:n<=1048576)(s:b<n)(h:He w f n (λb d=>D d b)):
 Ai Ap 70 #[Z f n r,(b:Int)] w λe z=>∃best most,e=Al (Ag Af best)/\Ct D n b n best most/\z=w:=by
 have H:Ae (He w f n (λb d=>D d b)):=h;obtain⟨rb,Q,l⟩:=h b s;have p:Ae (∀d,d<n->w ⟨rb,d,M⟩=K ↑(D d b)):=l
 have F:(b:Int)<(n:Int):=oM;clear h l;go_enter func70,ntmps70;go_wp2;go_loopw [5,6,7] (λx y i wr=>∃(d:Nat) (best most:Int),d<=n/\x=Ag Af best/\y=Ag Af most/\i=Ag Af d∧-1<=most/\most<=1048576/\Ae (Ct D n b d best most)/\wr=w) (λ_ _ i _=>n-(intOf i).toNat)
 case atStart=>exact⟨0,-1,-1,oM,rfl,rfl,rfl,oM,oM,Ct.start D n b,rfl⟩
 obtain⟨d,best,most,G,rfl,rfl,rfl,hm1,hm2,c,rfl⟩:=hrel;by_cases j:d<n
 . have O:(d:Int)<(n:Int):=oM;by_cases e:d=b
   . subst e;have HN:Ae (Ct D n d (d+1) best most):=c.skip (λq=>q.1 rfl);exact Mu
   have C:((d:Int)==(b:Int))=false:=oT;have E:¬(d:Int)=(b:Int):=oM;have c0:=p.o d j;cases hD:D d b
   . rw[hD]at c0;have HN:Ae (Ct D n b (d+1) best most):=c.skip (λq=>by rw[hD]at q;cases q.2);exact Mu
   rw[hD]at c0;obtain⟨rd,B,g⟩:=H.o d j;have m:Ae (∀k,k<n->wr ⟨rd,k,M⟩=K ↑(D k d)):=g
   clear g;go_wp2;go_loopw [8,9] (λx i A=>∃k:Nat,k<=n/\x=Ag Af (Jt D d k:Int)/\i=Ag Af k/\A=wr) (λ_ i _=>n-(intOf i).toNat)
   (case atStart=>exact⟨0,oM,rfl,rfl,rfl⟩);obtain⟨k,I,rfl,rfl,rfl⟩:=hrel;have L:=UQ D d k;by_cases v:k<n
   . have N:(k:Int)<(n:Int):=oM;have c1:=m.o k v;have a:=RP D d k;cases hDk:D k d
     . rw[hDk]at c1 a;simp only[o5,if_false,lJ]at a;go_wp2;go_roundw;(case rel=>exact⟨k+1,oM,by rw[a],by go_num,by trivial⟩);exact oI
     rw[hDk]at c1 a;simp only[if_true]at a;go_wp2;go_roundw;(case rel=>exact⟨k+1,oM,by rw[a];go_num,by go_num,by trivial⟩);exact oI
   obtain rfl:k=n:=oM;have t:OD D k d=Jt D d k:=rfl;by_cases u:most<(Jt D d k:Int)
   . have HN:Ae (Ct D k b (d+1) (d:Int) (Jt D d k:Int)):=c.more e hD u;go_wp2;go_roundw;(case rel=>exact⟨d+1,_,_,oM,rfl,rfl,by go_num,oM,oM,HN,by trivial⟩);exact oI
   have HN:Ae (Ct D k b (d+1) best most):=c.less (by rw[t];omega);exact Mu
 obtain rfl:d=n:=oM;go_wp2;go_ret;exact⟨best,most,rfl,c,rfl⟩
structure Hg(w:Y)(base:Nat)(V:J)(F:List (MB×J)):Prop where
 row:Ab w base 90 3 V F (Ad B4 F)
 io:Cl w base (DK F)
theorem SO{e:Nat}(h:e<=1048576):IntKind.i64.wrap (e:Int)=(e:Int):=by simp[IntKind.wrap,IntKind.bits,IntKind.signed];omega
theorem RI{X B k g n c:Nat}{e:Aj}{b:Array J}{xs:List J}(h:AA u X b t)(i:Ab u B e k (sG g n c) n xs)(f:t≠e):¬X=g:= λd=>by subst d;obtain⟨_,j,a⟩:=AD i;unfold AA at h;rw[h]at a;simp only[lH,nL]at a;exact f a.2.1
theorem Qs(n:Nat):(madeCells (Value.agg #[iZ 0,iZ 0,sN]).cells (n*3)).toList=(List.replicate n z3).flatten:=by rw[Cc Lp z3 [] n (Am #[iZ 0,iZ 0,sN]) 3 rfl rfl oM];simp[BG]
theorem LQ(s:J)(xs:List MI)(w:Y)(hn:xs.length<=1048576)(h:Rd w 4 s xs (Ad MI.cells xs)):
 Ai Ap 112 #[s] w λe w'=>∃V F,e=Al V/\Hg w' w V F/\((¬AZ xs/\F=[])\/AZ xs/\F.map Prod.fst=AL xs)/\Ah w w w':=by
 obtain⟨i0,hi,br,bt,bu⟩:=mN XE;have H:=Av h;obtain⟨a1,c1,rfl⟩:=h.bW;clear h;have aA:Ae (∀u:Y,Hg u w sN []):= λu=>⟨mI _ _ _ _,⟨λr U=>(by cases U),List.Pairwise.nil⟩⟩
 by_cases q0:xs.length=0
 . (have A:Ae (¬AZ xs):= λe=>by have:=e.1;omega);rw[q0];go_enter func112,ntmps112;go_wp2;go_ret;exact⟨_,[],rfl,aA.o _,.inl ⟨A,rfl⟩,lu _ _⟩
 by_cases q1:1024<xs.length
 . (have A:Ae (¬AZ xs):= λe=>by have:=e.2.1;omega);have bx:((xs:Int)==0)=false:=o9.2 oM;have bB:(1024:Int)<(xs:Int):=oM;go_enter func112,ntmps112;go_wp2;go_ret;exact⟨_,[],rfl,aA.o _,.inl ⟨A,rfl⟩,lu _ _⟩
 have bx:((xs:Int)==0)=false:=o9.2 oM;have bP:¬(xs:Int)=0:=oM;have bB:¬(1024:Int)<(xs:Int):=oM;go_enter func112,ntmps112;go_wp2_with fail;refine(Mh (Z a1 xs c1) xs _ hn H).mono ?_;rintro e u1 ⟨⟨b1,rfl,aq⟩,ao⟩;cases b1
 . (have A:Ae (¬AZ xs):= λe=>absurd (aq.2 e.2.2) nR);have HB:=Av ao;clear aq ao;go_wp2;go_ret;exact⟨_,[],rfl,aA.o _,.inl ⟨A,rfl⟩,HB⟩
 have HG:Ae (AZ xs):=⟨oM,oM,aq.1 rfl⟩;have HB:=Av ao;clear aq ao;go_wp2_with fail;refine(M7 (Z a1 xs c1) xs _ HG (H.a7 HB lR)).mono ?_;rintro e u2 ⟨C,cl,rfl,aT,T⟩;have aS:(CV xs xs).length<=1024:=lQ (nP _ _) oT;have bi:0<(CV xs xs).length:=oQ.2 (J8 xs _ oM);have ae:=Av (d5 (Bb aT HB.size) (Ar HB lR T));clear aT T;generalize hM:(CV xs xs).length=m at aS bi ae⊢;have n:=Av hM;clear hM;go_wp2_with (at_make;refine mm _ rfl _ _ 81 rfl w 90 i0 (Am #[iZ 0,iZ 0,sN]) 3 underlying81 hi br bt Af Af _ _ m rfl rfl rfl rfl (by rw[bu];omega) oX ae.2.size ?_;intro w3 aH aQ;rw[Qs]at aH);have au:Ae (IW w w3 xs C cl u2 m []):=by
  have aM:Ah u2 u2 w3:=(lu _ _).grown aQ lR (λk hk=>by cases hk);refine⟨?_,⟨?_,?_⟩,?_,Ar ae.2 lR aM⟩
  . rw[n];simpa using aH
  . intro r U;simp only[DK,List.map_nil,lw,mK,nJ]at U;subst U;rw[n];simp only[mD,n.o];exact Aw ae.1 aM lR
  . simp[DK]
  rw[oF (by rw[H8,n];exact Nat.le_refl _)];rfl
 clear aH aQ ae;generalize u2.heap.size=L at au⊢;go_wp2;go_loopw [5,6] (λv i wr=>∃(j q:Nat) (D:List (MB×J)),j<=m/\v=iZ q/\i=iZ ((j:Int)-1)/\Ae ((CV xs xs++[xs.length])[j]?=K q/\IW w wr xs C cl L j D)) (λ_ i _=>(intOf i+1).toNat)
 case atStart=>exact⟨m,xs,[],Nat.le_refl _,rfl,rfl,⟨by rw[lY (by rw[n];exact Nat.le_refl _),n.o];simp,au⟩⟩
 clear au;obtain⟨j,q,D,hj,rfl,rfl,z⟩:=hrel;cases j with
 | succ b=>
   rw[show(((b+1:Nat):Int)-1)=(b:Int)from oM];obtain⟨a,ha⟩:∃a,(CV xs xs)[b]?=K a:=⟨_,an (by rw[n];omega)⟩;have aP:=PR _ _ _ _ _ ha z.1;obtain⟨e,he,bf⟩:=JB xs xs oM _ (by rw[Cr];exact lA aP);simp only[]at he;obtain⟨x,hx⟩:∃x,xs[e]?=K x:=⟨_,an bf⟩;have HX:=Av (d5 ha (d5 he hx));have bj:(q:Int)=(e:Int)+1:=oM;have bH:(e:Int)+1-1=(e:Int):=oM;have aF:=z.2.lead;rw[n]at aF;have l0:=aF.cellAt b oM;rw[Dc,mE,mE,ha]at l0;simp only[oL]at l0;have aI:wr ⟨C,b,M⟩=K ↑a:=l0
   have l1:=Au (At wr) aI;have Q:=z.2.row;rw[n,Q8]at Q;have HR:=Av Q;have R1:=Av (H.a7 z.2.ej lR);have PF:Ae (∀u:Y,Rd u 4 (Z a1 xs c1) xs (Ad MI.cells xs)->Ai Ap 139 #[Z a1 xs c1,(e:Int)] u λe1 w'=>∃r,e1=Al r/\Ab w' u 2 1 r (Bg xs x e).length (Ad As (Bg xs x e))/\Ah u u w'):= λu hu=>Mg _ xs x e u HG.2.1 HG.2.2 HX.2.2 hu
   clear ha he hx aP aF Q l0;have bG:(b:Int)<(m:Int):=oM;have bK:IntKind.i64.wrap (e:Int)=(e:Int):=SO oM;rw[bj];go_wp2_with fail;go_region_law (first
    |(go_simp;go_at_call 139;refine(PF.o _ (R1.a7 (At _) lR)).mono ?_;rintro e1 u5 ⟨r,rfl,aJ,b5⟩;obtain⟨ar,cr,rfl⟩:=(Rd.ij aJ).bW;have B5:Ae (Ah wr wr u5):=BP b5 lR;have O5:Ae (Ab u5 wr 2 1 (Z ar (Bg xs x e).length cr) (Bg xs x e).length (Ad As (Bg xs x e))):=aJ;have l2:=Au B5 aI;have X:=Aw HR B5 lR;have N:=X.cellAt (b*3) oM;have O:=X.cellAt (b*3+1) oM;have P:=X.cellAt (b*3+2) oM;have f0:=X.frozenAt (b*3);have f1:=X.frozenAt (b*3+1);have f2:=X.frozenAt (b*3+2);rw[lY (by rw[SP];omega),SP]at N O P;rw[nM]at N;rw[nA]at O P;simp only[z3,mM,lC,lF]at N O P;clear aJ b5 X))
   all_goals
    refine AY (λu=>Ae (IW w u xs C cl L b ((⟨(a:Int),(e:Int),Bg xs x e⟩,Z ar (Bg xs x e).length cr)::D))) (z.2.next B5 O5 HX.1 z.1 HX.2.1 HX.2.2) ?_;intro U7 A;have l7:=A.lead.cellAt b (by rw[n];omega);rw[Dc,mE,mE,HX.1]at l7;simp only[oL]at l7;have bL:U7 ⟨C,b,M⟩=K ↑a:=l7
    clear l7 aI l1 l2 N O P f0 f1 f2;(have HQ:Ae ((CV xs xs++[xs.length])[b]?=K a):=by show _=_;rw[mP (by rw[n];omega)];exact HX.1);go_wp2;go_roundw;(case rel=>exact⟨b,a,_,oM,rfl,by go_num,⟨HQ,A⟩⟩);simp[intOf]
 | zero =>
   rw[show(((0:Nat):Int)-1)=-1 from rfl];have aw:Ae (JW w wr xs C cl L D/\D.map Prod.fst=KZ xs/\ ↑D=m):=by refine⟨⟨by simpa using z.2.row,z.2.io,z.2.ej⟩,by simpa using z.2.done,?_⟩;have:=congrArg List.length z.2.done;rw[mD,List.drop_zero,H8,n]at this;exact this
   have HD:=Av aw.2;have HP:Ae (∀x∈D,∀p∈x.1.next,0<=p/\p.toNat∈CV xs xs):= λx hx p hp=>QE xs HG x.1 (by rw[<-HD.1];exact oe hx) p hp
   (have aW:Ae (∀x∈D,x.1.next.length<=2):=by intro x hx;have hm:=oe (f:=Prod.fst) hx;rw[HD.1]at hm;unfold KZ at hm;obtain⟨m0,_,e0⟩:=mG.1 hm;rw[<-e0];simp only[Ua,Bg];split<;>split<;>simp);clear z hj;go_wp2;go_loopw [60] (λi wr=>∃E G:List (MB×J),Ae (D=E++G)/\ ↑E<=m/\i=iZ (E:Nat)/\Ae (JW w wr xs C cl L (E.map (KU xs)++G))) (λi _=>m-(intOf i).toNat)
   (case atStart=>exact⟨[],D,rfl,sP,rfl,aw.1⟩);clear aw;obtain⟨E,G,aj,hE,rfl,HJ⟩:=hrel;have aR: ↑E+ ↑G=m:=by have:=HD.2;rw[aj,lG]at this;exact this
   cases G with
   | nil=>
     have aZ: ↑E=m:=by simpa using aR
     have HF:Ae (Hg wr w (sG L m m) (E.map (KU xs))/\(E.map (KU xs)).map Prod.fst=AL xs):=by
      (have aY:D=E:=by rw[aj];simp);refine⟨⟨?_,?_⟩,?_⟩
      . have:=HJ.row;rw[n]at this;rw[mD,aZ];simpa using this
      . have:=HJ.io;exact⟨λr U=>this.own r (by simp at U⊢;exact .inr U),(by have h2:=this.sep;simp only[ny]at h2;exact(mj.1 h2).2)⟩
      exact UY xs HG E (by rw[<-aY];exact HD.1)
     have aU:=Av HJ.ej;go_wp2;go_ret;exact⟨_,_,rfl,HF.1,.inr ⟨HG,HF.2⟩,aU⟩
   | cons y G'=>
     obtain⟨⟨f,l,d⟩,v⟩:=y;have bF: ↑E<m:=by simp only[mW]at aR;omega
     have bC:(E:Int)<(m:Int):=oM;(have aG:((⟨f,l,d⟩,v):MB×J)∈D:=by rw[aj];simp);have aX:=Av (HP.o _ aG);have bJ:d.length<=2:=aW.o _ aG;have t:=HJ.io.own (v,d) (by simp[DK]);simp only[]at t;obtain⟨R,B,rfl⟩:∃a c,v=Z a d c:=(Rd.ij t).bW;have Q:=HJ.row;rw[n,mH,mF]at Q;have hA:(Ad B4 (E.map (KU xs))).length= ↑E*3:=by rw[AE B4 3 A4,mD]
     have N:=Q.cellAt (E.length*3) oM;have O:=Q.cellAt (E.length*3+1) oM;have P:=Q.cellAt (E.length*3+2) oM;rw[lY oM,hA]at N O P;rw[nM]at N;rw[nA]at O P;simp only[B4,mM,lC,lF]at N O P;clear Q hA aG;obtain⟨wo,bp⟩:∃W,W=wr:=⟨_,rfl⟩;subst bp;(go_upto_region 14 with fail);refine Ax (λu=>Ae (JW w u xs C cl L (E.map (KU xs)++(⟨f,l,d⟩,Z R d B)::G')/\AA u wo #[f,l,Z R d B] 90)) ⟨HJ.a7 (Aq _ _),AA.new _ _ _⟩ ?_
     intro U1 am;clear N O P;have T:=am.2.cell 2;simp only[lE,lC,lF]at T;go_wp2;go_loopw [67] (λi wr=>∃k:Nat,k<= ↑d/\i=iZ k/\Ae (JW w wr xs C cl L (E.map (KU xs)++(⟨f,l,(d.map (Hb xs)).take k++d.drop k⟩,Z R d B)::G')/\AA wr wo #[f,l,Z R d B] 90)) (λi _=> ↑d-(intOf i).toNat)
     (case atStart=>exact⟨0,oM,rfl,⟨by have S:=am.1;simpa using S,am.2⟩⟩);clear am T;obtain⟨k,hk,rfl,HK⟩:=hrel;by_cases bg:k< ↑d
     . obtain⟨p,hp⟩:∃p,d[k]?=K p:=⟨_,an bg⟩;have aE:((d.map (Hb xs)).take k++d.drop k).length=d.length:=oT;have t:=HK.1.io.own (Z R d B,(d.map (Hb xs)).take k++d.drop k) (by simp[DK]);simp only[aE]at t;obtain⟨I,rfl⟩:∃I,R=K ⟨I,0,M⟩:=by
        rcases Bo t with⟨_,S⟩|⟨g,c,S⟩
        . omega
        simp only[lB]at S;exact⟨g,S.1⟩
       have HC:Ae (d[k]?=K p/\((d.map (Hb xs)).take k++d.drop k).length=d.length/\0<=p/\p.toNat∈CV xs xs.length):=⟨hp,aE,aX.o p (lA hp)⟩
       have c0:=t.cellAt k oM;rw[Dc,mE,lY oT]at c0;rw[show k-(List.take k (d.map (Hb xs))).length=0 from oT,pJ,lJ,hp]at c0;simp only[oL]at c0;clear hp aE t;have bI:(k:Int)<(d:Int):=oM;go_wp2_with fail;refine(HK.1.search n aS p HC.2.2.1 HC.2.2.2).mono ?_;rintro e1 u3 ⟨⟨bb,rfl⟩,qq,hq⟩;have ah:Ae (JW w u3 xs C cl L (E.map (KU xs)++(⟨f,l,(d.map (Hb xs)).take k++d.drop k⟩,sG I d B)::G')/\AA u3 wo #[f,l,sG I d B] 90):=by rw[hq];exact⟨HK.1.drew qq,HK.2⟩
       clear hq c0 HK;have t:=ah.1.io.own (sG I d B,(d.map (Hb xs)).take k++d.drop k) (by simp[DK]);simp only[HC.2.1]at t;have T:=ah.2.cell 2;simp only[lE,lC,lF]at T;have c1:=t.cellAt k oM;rw[Dc,mE,lY oT]at c1;rw[show k-(List.take k (d.map (Hb xs))).length=0 from oT,pJ,lJ,HC.1]at c1;simp only[oL]at c1;have c2:=t.frozenAt k;have bq:¬ ↑wo=I:=RI ah.2 t dC
       have A:Ae (JW w (Aa u3 ⟨I,k,M⟩ (Hb xs p)) xs C cl L (E.map (KU xs)++(⟨f,l,(d.map (Hb xs)).take (k+1)++d.drop (k+1)⟩,sG I d B)::G')/\AA (Aa u3 ⟨I,k,M⟩ (Hb xs p)) wo #[f,l,sG I d B] 90):=⟨ah.1.set HC.2.1 (Us xs d k p HC.1) oT,ah.2.other (a:=⟨I,k,M⟩) bq _⟩
       clear t;go_wp2;go_roundw;(case rel=>exact⟨k+1,oM,by go_num,A⟩);exact oI
     obtain rfl:k=d.length:=oM;(have A:Ae (JW w wr xs C cl L ((E++[((⟨f,l,d⟩:MB),(Z R d B:J))]).map (KU xs)++G')):=by have S:=HK.1;rw[mC sP,oF lR,ny]at S;show JW _ _ _ _ _ _ _;simpa[KU]using S);go_wp2;go_roundw;(case rel=>exact⟨E++[(⟨f,l,d⟩,Z R d B)],G',by show _=_;rw[aj];simp,by simp only[lG,lL];omega,by simp only[lG,lL];go_num,A⟩);exact oI
theorem Ig(P:Program)(w:Y)(a:Addr)(m:Mode)(f:Fn)(x y:Array J):(store a (.func f x y) m).run P w=stored P w a (.func f x y) m:=run_store P w a _ m rfl
theorem IV(g o c n:Nat)(E:Nat->List Nat)(sv:J)(T:List Nat)(B:J)(a:List Nat)(w:Y)(hn:n<=1024)(hE:∀b,b<n->∀x∈E b,x<n)(aq:∀b,(E b).length<=2048)(h:Gj w g o n E)(hT:∀x∈T,x<n)(aF:T.length<=4096)(X:Jo w sv T)(hS:(B=Z M 0 0/\a=[])\/∃x F R:Nat,a=[x]/\x<n/\B=Z F 1 R/\w F=K ↑(x:Int)):
 Ai Ap 141 #[Z (K ⟨g,o,M⟩) n c,sv,B] w λe w'=>∃V S O,e=Al V/\Vs E a [] T S O/\GE w' w V O/\Ah w w w':=by
 have H:=Av (d5 h (d5 hE (d5 aq (d5 hT X))));obtain⟨at_,ct,rfl⟩:=Rd.bW X;clear h hE aq hT X;have aI:= @run_makeMap Ap;have aH:∀(fn:Fn) (first cap:Array J) (w:Y),(Instr.makeFunc fn first cap).run Ap w=.ok (.func fn first cap) w:= λ_ _ _ _=>rfl
 go_enter func141,ntmps141;go_upto_region 3 with fail
 refine Ax (λu=>Ae (AA u w #[Z (K ⟨g,o,M⟩) n c] 22/\AA u ((w:Nat)+1) #[Z M 0 0] 29/\AP u ((w:Nat)+1+1) 0 (.map [])/\AA u ((w:Nat)+1+1+1) #[.map (K ((w:Nat)+1+1))] 158/\Ah w w u)) ?_ ?_
 . have b1:=Aq w (Ak #[Z (K ⟨g,o,M⟩) n c] 22);have k1:=AA.new w #[Z (K ⟨g,o,M⟩) n c] 22;have z1:(Ac w (Ak #[Z (K ⟨g,o,M⟩) n c] 22)).heap.size= ↑w+1:=sP
   generalize Ac w (Ak #[Z (K ⟨g,o,M⟩) n c] 22)=v at b1 k1 z1⊢;have Q:=Aq v (Ak #[Z M 0 0] 29);have k2:=AA.new v #[Z M 0 0] 29;have z2:(Ac v (Ak #[Z M 0 0] 29)).heap.size= ↑w+1+1:=by simp[z1]
   rw[z1]at k2;generalize Ac v (Ak #[Z M 0 0] 29)=r at Q k2 z2⊢;have z:=Aq r (.map #[] 0);have k3:AP (Ac r (.map #[] 0)) r 0 (.map []):=World.ownsMap_made _ _ _ _;have z3:(Ac r (.map #[] 0)).heap.size= ↑w+1+1+1:=by simp[z2]
   rw[z2]at k3;generalize Ac r (.map #[] 0)=W3 at z k3 z3⊢;have A:=Aq W3 (Ak #[.map (K ((w:Nat)+1+1))] 158);have k4:=AA.new W3 #[.map (K ((w:Nat)+1+1))] 158;rw[z3]at k4;exact⟨((k1.a7 Q).a7 z).a7 A,(k2.a7 z).a7 A,k3.a7 A,k4,Ar (Ar (Ar b1 lR Q) lR z) lR A⟩
 intro q d;have s0:q ⟨(w:Nat)+1+1+1,0,M⟩=K (.map (K ((w:Nat)+1+1))):=d.2.2.2.1.cell 0;have ae:Ae (Ai Ap 110 #[.map (K ((w:Nat)+1+1)),B] q λe I=>e=Al (.tuple #[])/\(∃C D,AP I ((w:Nat)+1+1) C D/\C+A8 a n<=n+1/\∀x:Nat,Go.Maps.has D (.int Af (x:Int))=a.contains x)/\q.grownBy I (K ((w:Nat)+1+1))):=by
  rcases hS with⟨rfl,rfl⟩|⟨x,F,R,rfl,hx,rfl,hc⟩
  . refine(UM _ q).mono ?_;rintro e I ⟨rfl,rfl⟩;exact⟨rfl,⟨0,.map [],d.2.2.1,by rw[FV];omega, λx=>rfl⟩,⟨rfl,rfl,rfl,Nat.le_refl _, λ_ _ _=>rfl⟩⟩
  refine(Db _ 0 F R _ (x:Int) q (Dh oM) oM (Au d.2.2.2.2 hc) (by have:=g8 hc;simp only[]at this;omega) d.2.2.1).mono ?_;rintro e I ⟨rfl,U,W⟩;refine⟨rfl,⟨_,_,U,?_, λy=> ?_⟩,W⟩
  . have:=EO [] n x hx sP;rw[FV]at this;omega
  rw[Er _ (nV d.2.2.1)];by_cases e:y=x
  . subst e;simp
  have:¬(y:Int)=(x:Int):=oM;simp[e,this];rfl
 clear hS;go_wp2_with fail;refine ae.mono ?_;rintro e f ⟨rfl,ao,t⟩;have p:=Av (d5 (d.1.gb t oT) (d5 (d.2.1.gb t sP) (d5 ao (d5 (d.2.2.2.1.gb t sP) (d.2.2.2.2.grown t d.2.2.2.2.size (λj hj=>by cases hj;omega))))));clear ao t ae d s0;have aJ:= @Ig Ap;have kF:=AA.new f #[.nilFunc] 239;have c9:(Ac f (Ak #[.nilFunc] 239)) f=K .nilFunc:=kF.cell 0;have f9:=kF.frozen 0;have ah:Ae (PO w (Ac f (Ak #[.func (.func 166) #[] #[.pointer (K ⟨(w:Nat)+1+1+1,0,M⟩),.pointer w,.pointer f,.pointer (K ⟨(w:Nat)+1,0,M⟩)]] 239)) n ((w:Nat)+1+1) ((w:Nat)+1+1+1) w f ((w:Nat)+1) (Z (K ⟨g,o,M⟩) n c) (Z M 0 0) a []):=by have s:=Aq f (Ak #[XH ((w:Nat)+1+1+1) w f ((w:Nat)+1)] 239);obtain⟨C,D,U,W,h3⟩:=p.2.2.1;refine⟨⟨C,D,U.a7 s,W,h3⟩,p.2.2.2.1.a7 s,p.1.a7 s,AA.new f _ _,p.2.1.a7 s,mI _ _ _ _,Ar p.2.2.2.2 lR s,⟨oM,oM⟩,?_⟩;have:=Ih n (S:=[]) (S':=a) (λx hx=>by cases hx);rw[FV]at this;simpa using this
 go_upto_region 6 with fail
 refine Ax (λu=>Ae (PO w u n ((w:Nat)+1+1) ((w:Nat)+1+1+1) w f ((w:Nat)+1) (Z (K ⟨g,o,M⟩) n c) (Z M 0 0) a [])) ah ?_;intro U2 L;clear ah kF c9 f9 p;obtain⟨m,aj⟩:∃m,m=f.heap.size:=⟨_,rfl⟩;rw[<-aj]at L⊢;clear aj;go_wp2;go_loopw [19] (λi wr=>∃(k:Nat) (V:J) (S O:List Nat),k<= ↑T/\i=.int Af k/\Ae (Vs E a [] (T.take k) S O/\PO w wr n ((w:Nat)+1+1) ((w:Nat)+1+1+1) w m ((w:Nat)+1) (Z (K ⟨g,o,M⟩) n c) V S O)) (λi _=> ↑T-(intOf i).toNat)
 case atStart=>exact⟨0,_,a,[],oM,rfl,by simpa using Vs.nil a [],L⟩
 clear L;obtain⟨k,V,S,O,hk,rfl,l⟩:=hrel;by_cases aA:k< ↑T
 . have aG:(k:Int)<(T:Int):=oM;obtain⟨y,G⟩:∃y,T[k]?=K y:=⟨_,an aA⟩;have aE:y<n:=H.2.2.2.1 y (lA G);obtain⟨ga,oa,rfl,_,y0⟩:=H.2.2.2.2.at_ G;(replace y0:=Au l.2.ej y0);have f0:wr m=K (.func (.func 166) #[] #[.pointer (K ⟨(w:Nat)+1+1+1,0,M⟩),.pointer w,.pointer m,.pointer (K ⟨(w:Nat)+1,0,M⟩)]):=l.2.wb.cell 0;(have HT:Ae (T.take (k+1)=T.take k++[y]):=by obtain⟨hl,rfl⟩:=i8.1 G;exact l8 hl);clear G;go_wp2_with fail;refine(Wk w g o c n ((w:Nat)+1+1) ((w:Nat)+1+1+1) w m ((w:Nat)+1) E hn H.2.1 H.2.2.1 H.1 _ S O y V wr rfl aE l.2 (λ_=>l.2.len)).mono ?_;rintro e u3 ⟨rfl,V3,P,N,au,am,aw⟩;have HN:Ae (Vs E a [] (T.take (k+1)) P N/\PO w u3 n ((w:Nat)+1+1) ((w:Nat)+1+1+1) w m ((w:Nat)+1) (Z (K ⟨g,o,M⟩) n c) V3 P N):=by refine⟨?_,am⟩;rw[HT];exact l.1.ir au
   clear au am aw y0 f0;go_wp2;go_roundw;(case rel=>exact⟨k+1,V3,P,N,oM,by go_num,HN⟩);exact oI
 obtain rfl:k=T.length:=oM;have l0:wr ⟨(w:Nat)+1,0,M⟩=K V:=l.2.lb.cell 0;have HF:Ae (Vs E a [] T S O):=by have:=l.1;rw[mC lR]at this;exact this
 go_wp2;go_ret;exact⟨V,S,O,rfl,HF,l.2.list,l.2.ej⟩
section
variable {E:Nat->List Nat} {D:Nat->Nat->Bool} {n h b k y:Nat}
def Cv(E:Nat->List Nat)(D:Nat->Nat->Bool)(h b k:Nat):List Nat:=(((E b).take k).filter λx=>decide (x=h)&&D h b).map λ_=>b
theorem I7(E:Nat->List Nat)(D:Nat->Nat->Bool)(b h:Nat):AK E D (b+1) h=AK E D b h++Cv E D h b (E b).length:=by unfold AK Cv;rw[nW,mH];simp
theorem Lo(E:Nat->List Nat)(D:Nat->Nat->Bool)(h b:Nat):Cv E D h b 0=[]:=by simp[Cv]
theorem Nr(d:(E b)[k]?=K h)(a:D h b=true):Cv E D h b (k+1)=Cv E D h b k++[b]:=by obtain⟨c,e⟩:=i8.1 d;unfold Cv;rw[l8 c,nY,m9,e];simp[a]
theorem Jq(d:(E b)[k]?=K y)(c:¬(y=h/\D h b=true)):Cv E D h b (k+1)=Cv E D h b k:=by
 obtain⟨a,e⟩:=i8.1 d;unfold Cv;rw[l8 a,nY,m9,e];have:(decide (y=h)&&D h b)=false:=by
  cases q:D h b with
  |false=>simp
  |true=>simp;exact λe=>c ⟨e,q⟩
 simp[this]
theorem JY(E:Nat->List Nat)(D:Nat->Nat->Bool)(h b k:Nat):(Cv E D h b k).length<=(E b).length:=by unfold Cv;rw[mD];refine lQ (nP _ _) ?_;rw[mY];omega
theorem Gq(a:∀b,(E b).length<=2)(D:Nat->Nat->Bool)(h b:Nat):(AK E D b h).length<=2*b:=by
 induction b with
 |zero=>simp[AK]
 | succ b e=>have c:=JY E D h b (E b).length;have d:=a b;rw[I7,lG];omega
def Zy(E:Nat->List Nat)(D:Nat->Nat->Bool)(n h x:Nat):Prop:=∃t∈AK E D n h,Ef (BC E n) (· ≠h) t x
structure Rt(E:Nat->List Nat)(D:Nat->Nat->Bool)(n h:Nat)(L:List Nat):Prop where
 nodup:L.Nodup
 ne:∀x∈L,x≠h
 lt:∀x∈L,x<n
 src:∀x∈L,Zy E D n h x
theorem Rt.len(a:Rt E D n h L): ↑L<=n:=by have:=FO L n a.lt a.nodup;omega
theorem Rt.nil:Rt E D n h []:=⟨List.nodup_nil, λ_ q=>(by cases q), λ_ q=>(by cases q), λ_ q=>(by cases q)⟩
theorem Rt.add(d:Rt E D n h L)(l:y≠h)(k:y<n)(m:Zy E D n h y)(i:y∉L):Rt E D n h (L++[y]):=by
 have f:∀x,x∈L++[y]->x∈L\/x=y:= λx b=>by simpa using b
 refine⟨oH.2 ⟨d.nodup,sP, λa j c g e=> ?_⟩, λx b=> ?_, λx b=> ?_, λx b=> ?_⟩
 . simp only[lw,mK,nJ]at g;subst g e;exact i j
 . rcases f x b with q|rfl
   . exact d.ne x q
   exact l
 . rcases f x b with q|rfl
   . exact d.lt x q
   exact k
 rcases f x b with q|rfl
 . exact d.src x q
 exact m
def Tx(h:Nat)(L B:List Nat):Prop:=∀x∈B,x=h\/x∈L
theorem Tx.ir(a:Tx h L B)(z:Nat):Tx h (L++[z]) B:= λx b=>(a x b).imp id λq=>lT.2 (.inl q)
theorem Tx.next{L b B:List Nat}(c:Tx h L (B.take k))(f:∀x∈L,x∈b)(g:B[k]?=K y)(d:y=h\/y∈b):Tx h b (B.take (k+1)):= λz a=>by
 obtain⟨e,rfl⟩:=i8.1 g;rw[l8 e]at a;rcases lT.1 a with a|a
 . exact(c z a).imp id (f z)
 simp only[lw,mK,nJ]at a;subst a;exact d
def Wq(E:Nat->List Nat)(n h:Nat)(L:List Nat)(i:Nat):Prop:=∀j x,L[j]?=K x->j<i->∀y,y<n->x∈E y->y=h\/y∈L
def Oq(E:Nat->List Nat)(h:Nat)(L:List Nat)(x b:Nat):Prop:=∀y,y<b->x∈E y->y=h\/y∈L
theorem Wq.ir(b:Wq E n h L i)(f:i<= ↑L)(z:Nat):Wq E n h (L++[z]) i:= λj x a c y e d=>by rw[mP oM]at a;exact(b j x a c y e d).imp id λq=>lT.2 (.inl q)
theorem Oq.ir(a:Oq E h L x b)(z:Nat):Oq E h (L++[z]) x b:= λy d c=>(a y d c).imp id λq=>lT.2 (.inl q)
theorem Oq.next(c:Oq E h L x b)(d:x∈E b->b=h\/b∈L):Oq E h L x (b+1):= λy f a=>by
 by_cases e:y=b
 . subst e;exact d a
 exact c y oM a
theorem Wq.next(d:Wq E n h L i)(g:L[i]?=K x)(f:Oq E h L x n):Wq E n h L (i+1):= λj z a k y b c=>by
 by_cases e:j=i
 . subst e;rw[g]at a;(cases a);exact f y b c
 exact d j z a oM y b c
theorem Rt.step(a:Rt E D n h L)(i:x∈L)(e:b<n)(f:x∈E b)(g:b≠h):Zy E D n h b:=by obtain⟨t,c,d⟩:=a.src x i;exact⟨t,c,.step d ((CK E n x b).2 ⟨e,f⟩) g⟩
theorem Rt.iff(b:Rt E D n h L)(e:Tx h L (AK E D n h))(f:Wq E n h L L)(x:Nat):(h::L).contains x=true↔AR E D n h x:=by
 simp only[List.contains_eq_mem,my,lw];unfold AR;refine or_congr_right ⟨b.src x,?_⟩;rintro⟨t,c,d⟩;induction d with
 |here q=>exact(e t c).resolve_left q
 | step _ i k g=>obtain⟨j,a⟩:=mJ g;obtain⟨l,m⟩:=(CK E n _ _).1 i;exact(f j _ a (i8.1 a).1 _ l m).resolve_left k
end
theorem PZ(h:Nat)(L:List Nat)(y n:Nat):∀j,j<n->(h::(L++[y])).contains j=if j=y then true else(h::L).contains j:= λj _=>by
 by_cases e:j=y
 . subst e;simp
 simp[e]
theorem OP:(Tryz.prog.info? 92).map (λi=>(i.zero,i.size,i.bytes))=K (K (Am #[iZ 0,sN,sN]),3,56):=kR
structure L1(w u:Y)(n h bl gi:Nat)(BV:J)(B:List Nat):Prop where
 ik:AA u w #[iZ 0,sN,sN] 92
 ie:AA u bl #[h,BV,sN] 92
 iq:GK u w gi n (λx=>[h].contains x)
 back:GE u w BV B
 ej:Ah w w u
 lt: ↑w<bl
theorem L1.al{n h b c:Nat}{a:J}(l:L1 w u n h b c a B)(o:Obj):Ab (u.alloc o) w 2 1 a B (nv B)/\ ↑w<=(u.alloc o).heap.size:=⟨l.back.a7 (Aq _ _),lQ l.ej.size (Aq _ _).size⟩
theorem L1.ir{w u b:Y}{n h d k:Nat}{y:Nat}(l:L1 w u n h d k g B)(s:Ab b w 2 1 V' (B.length+1) (nv B++[iZ (y:Int)]))(j:(Ac u (Ak #[iZ (y:Int)] 2)).grownBy b g.ownBlock):AA b d #[iZ (h:Int),g,sN] 92/\L1 w (Aa b ⟨d,1,M⟩ V') n h d k V' (B++[y]):=by
 have c:=Aq u (Ak #[y] 2);have r:=l.back.a7 c;have f:AA b d #[h,g,sN] 92:=(l.ie.a7 c).grown j r dC;have A:=(l.ik.a7 c).grown j r dC;have t:GK b w k n (λx=>[h].contains x):=B3 (l.iq.a7 c) j r dC;have v:Ah w w b:=(Ar l.ej lR c).grown j (lQ l.ej.size c.size) (λi z=>(l.back.lt i z).1);refine⟨f,A.other (by have:=l.lt;simp only[];omega) _,?_,?_,?_,v.setCell (o7 l.lt) _,l.lt⟩
 . have:=f.set 1 V';simpa using this
 . (refine t.other λe=> ?_);obtain⟨_,D,m⟩:=AD t;subst e;unfold AA at f;rw[f]at m;simp only[lH,nL]at m;exact absurd m.2.1 dC
 unfold GE;rw[lG,lL,FQ];refine lI s (a:=⟨d,1,M⟩) (λq=> ?_) _;rcases s.2 with⟨rfl,_⟩|⟨F,C,E,rfl,_,p,_⟩
 . cases q
 simp only[Value.ownBlock,lH]at q;subst q;unfold AA at f;rw[f]at p;simp only[lH,nL]at p;exact absurd p.2.1 dC
theorem L1.a7{n h c d:Nat}{b:J}(l:L1 w u n h c d b B)(a:Ah u u e):L1 w e n h c d b B:=⟨l.ik.a7 a,l.ie.a7 a,l.iq.a7 a,l.back.a7 a,Ar l.ej lR a,l.lt⟩
structure L2(w w1 u:Y)(n gi:Nat)(P:Nat->Bool)(LV:J)(L:List Nat):Prop where
 iq:GK u w gi n P
 list:GE u w1 LV L
 fx:∀k,k< ↑w1->k≠gi->u.heap[k]?=w1.heap[k]?
 ej:Ah w w u
 size:(w1:Nat)<= ↑u
 glt:gi< ↑w1
theorem L2.mark{n a:Nat}{LV:J}(l:L2 w d u n a P LV L)(i:Nat)(b:Bool)(e:∀j,j<n->Q j=if j=i then b else P j):L2 w d (Aa u ⟨a,i,M⟩ b) n a Q LV L:=⟨l.iq.set i b e,BT l.list l.iq dC i _, λk f c=>by rw[mS u _ k _ c];exact l.fx k f c,l.ej.setCell (AD l.iq).1 _,by rw[mc];exact l.size,l.glt⟩
theorem L2.al{a:Y}{n b:Nat}{LV:J}(l:L2 w a u n b P LV L)(o:Obj):Ab (u.alloc o) a 2 1 LV L (nv L)/\ ↑a<=(u.alloc o).heap.size:=⟨l.list.a7 (Aq _ _),lQ l.size (Aq _ _).size⟩
theorem L2.a7{n b:Nat}{LV:J}(l:L2 w e u n b P LV L)(a:Ah u u d):L2 w e d n b P LV L:=⟨l.iq.a7 a,l.list.a7 a, λk c f=>by rw[a.block k (mT c l.size)];exact l.fx k c f,Ar l.ej lR a,lQ l.size a.size,l.glt⟩
theorem L2.ir{n g:Nat}{LV V':J}{y:Nat}(l:L2 w c u n g P LV L)(hw:(w:Nat)<= ↑c)(m:Ab f c 2 1 V' (L.length+1) (nv L++[iZ (y:Int)]))(b:(Ac u (Ak #[iZ (y:Int)] 2)).grownBy f LV.ownBlock):L2 w c f n g P V' (L++[y]):=by
 have a:=Aq u (Ak #[y] 2);have p:=l.list.a7 a;refine⟨B3 (l.iq.a7 a) b p dC,?_, λk d j=> ?_,(Ar l.ej lR a).grown b (lQ l.ej.size a.size) (λi h=>lQ hw (l.list.lt i h).1),lQ l.size (lQ a.size b.size),l.glt⟩
 . unfold GE;rw[lG,lL,FQ];exact m
 rw[b.block k (mT d (lQ l.size a.size)) (λe=>by have:=(l.list.lt k e.symm).1;omega),a.block k (mT d l.size)];exact l.fx k d j
theorem L2.ie{n c:Nat}{LV:J}(l:L2 w e u n c P LV L){b:Nat}(d:AA e b a t)(f:b≠c):AA u b a t:=by unfold AA at*;rw[l.fx b (lK.1 d).1 f];exact d
theorem L2.cell{n b:Nat}{LV:J}(l:L2 w d u n b P LV L){a:Addr}{x:J}(c:d a=K x)(e:a.block≠b):u a=K x:=by have:=l.fx a.block (g8 c) e;unfold World.cell? at*;rw[this];exact c
theorem GE.fx{a:Y}{base:Nat}(h:GE a base s l)(e:∀k,k< ↑a->k≠x->u.heap[k]?=a.heap[k]?)(i:∀g,s.ownBlock=K g->g≠x):GE u base s l:=by
 refine⟨h.1,?_⟩;rcases h.2 with h|⟨g,cap,c,rfl,d,b,f⟩
 . exact .inl h
 refine .inr ⟨g,cap,c,rfl,d,?_,f⟩;rw[e g (lK.1 b).1 (i g rfl)];exact b
theorem GE.j6{base b:Nat}(h:GE w base s l)(c:AA w b a t)(d:2≠t):∀g,s.ownBlock=K g->g≠b:=Bt h c d
theorem GK.congr{base g n:Nat}(h:GK w base g n P)(a:∀i,i<n->P i=Q i):GK w base g n Q:=by unfold GK at*;rw[Jr a]at h;exact h
structure L4(w w2 u:Y)(n h bl gi:Nat)(BV KV:J)(K:List Nat)(P:Nat->Bool):Prop where
 ik:AA u w #[iZ 0,sN,sN] 92
 ie:AA u bl #[h,BV,KV] 92
 iq:GK u w gi n P
 row:GE u w2 KV K
 fx:∀k,k< ↑w2->k≠bl->u.heap[k]?=w2.heap[k]?
 ej:Ah w w u
 size:(w2:Nat)<= ↑u
 blt:bl< ↑w2
theorem L4.al{w b u:Y}{n h e f:Nat}{d c:J}{a:List Nat}(l:L4 w b u n h e f d c a P)(o:Obj):Ab (u.alloc o) b 2 1 c a (nv a)/\ ↑b<=(u.alloc o).heap.size:=⟨l.row.a7 (Aq _ _),lQ l.size (Aq _ _).size⟩
theorem L4.ir{r:Y}{n h c s:Nat}{m:J}{j:List Nat}{y:Nat}(l:L4 w r u n h c s g m j P)(hw: ↑w<c)(A:Ab d r 2 1 V' (j.length+1) (nv j++[iZ (y:Int)]))(f:(Ac u (Ak #[iZ (y:Int)] 2)).grownBy d m.ownBlock):AA d c #[iZ (h:Int),g,m] 92/\L4 w r (Aa d ⟨c,2,M⟩ V') n h c s g V' (j++[y]) P:=by
 have b:=Aq u (Ak #[y] 2);have x:=l.row.a7 b;have p:AA d c #[h,g,m] 92:=(l.ie.a7 b).grown f x dC;have F:=(l.ik.a7 b).grown f x dC;have B:GK d w s n P:=B3 (l.iq.a7 b) f x dC;have E:(w:Nat)<=r.heap.size:=by have:=l.blt;omega
 have C:Ah w w d:=(Ar l.ej lR b).grown f (lQ l.ej.size b.size) (λi D=>lQ E (l.row.lt i D).1);refine⟨p,F.other oS _,?_,?_,?_, λk v z=> ?_,C.setCell (o7 hw) _,?_,l.blt⟩
 . have:=p.set 2 V';simpa using this
 . (refine B.other λe=> ?_);obtain⟨_,G,t⟩:=AD B;subst e;unfold AA at p;rw[p]at t;simp only[lH,nL]at t;exact absurd t.2.1 dC
 . unfold GE;rw[lG,lL,FQ];refine lI A (a:=⟨c,2,M⟩) (λq=> ?_) _;have:=(A.lt c q).1;have:=l.blt;omega
 . rw[mS d _ k _ z,f.block k (mT v (lQ l.size b.size)) (λe=>by have:=(l.row.lt k e.symm).1;omega),b.block k (mT v l.size)];exact l.fx k v z
 rw[mc];exact lQ l.size (lQ b.size f.size)
def zv(I:Nat->Int)(n:Nat):List J:=(List.range n).map λi=>Ag Af (I i)
theorem Iy(I:Nat->Int)(n:Nat):(zv I n).length=n:=by simp[zv]
theorem Rr(I:Nat->Int)(n i:Nat)(h:i<n):(zv I n)[i]?=K ↑(I i):=by simp[zv,h]
theorem YF{I b:Nat->Int}{n i:Nat}{x:Int}(h:∀j,b j=if j=i then x else I j):(zv I n).set i x=zv b n:=by
 apply nB;intro j;by_cases a:j<n
 . rw[Rr _ _ _ a,h j];by_cases e:j=i
   . subst e;rw[mi (by rw[Iy];exact a),lZ rfl]
   rw[mu oM,Rr _ _ _ a,lS e]
 rw[lW (by simp[Iy];omega),lW (by rw[Iy];omega)]
theorem YE(n:Nat):List.replicate n (Ag Af (-1))=zv (λ_=> -1) n:=by
 apply nB;intro j;by_cases a:j<n
 . rw[Rr _ _ _ a];simp[a]
 rw[lW oT,lW (by rw[Iy];omega)]
theorem Xp(I:Nat->Int)(n:Nat):zv I n=Ad As ((List.range n).map I):=by
 unfold zv;rw[List.flatMap_map];induction List.range n with
 |nil=>rfl
 |cons x r a=>simp[As,a]
structure DW(w u:Y)(G n:Nat)(A:Array J)(gi:Nat)(I:Nat->Int):Prop where
 ie:∃x0 x1 x2 x3,A=#[x0,x1,x2,x3]/\AA u G #[x0,x1,x2,x3,Z gi n n] 196
 row:Ab u w 2 1 (Z gi n n) n (zv I n)
 fx:∀k,k< ↑w->k≠G->u.heap[k]?=w.heap[k]?
 ej:Ah G w u
 size:(w:Nat)<= ↑u
 lt:G< ↑w
theorem DW.a7{G n b:Nat}(h:DW w u G n A b I)(a:Ah u u d):DW w d G n A b I:=by obtain⟨g,i,j,l,e,k⟩:=h.ie;exact⟨⟨g,i,j,l,e,k.a7 a⟩,Aw h.row a lR, λk c f=>by rw[a.block k (mT c h.size)];exact h.fx k c f,h.ej.trans (a.mono (by have:=h.lt;have:=h.size;omega)),lQ h.size a.size,h.lt⟩
theorem DW.cell{G n c:Nat}(h:DW w u G n A c I){a:Addr}{x:J}(b:w a=K x)(d:a.block≠G):u a=K x:=by have:=h.fx a.block (g8 b) d;unfold World.cell? at*;rw[this];exact b
theorem DW.set{G n a:Nat}{c:Nat->Int}(h:DW w u G n A a I)(b:Nat)(x:Int)(d:∀j,c j=if j=b then x else I j):DW w (Aa u ⟨a,b,M⟩ x) G n A a c:=by
 obtain⟨i,l,m,p,e,k⟩:=h.ie;have q:=(AD h.row).1;have r:=h.lt;refine⟨⟨i,l,m,p,e,k.other oS _⟩,?_, λk f g=> ?_,h.ej.setCell oS _,by rw[mc];exact h.size,h.lt⟩
 . have:=(h.row.stored b x).1;rw[YF d]at this;exact this
 rw[mS u _ k _ oS];exact h.fx k f g
structure Kr(E:Nat->List Nat)(n:Nat)(pl:Nat->Nat)(k j:Nat)(I:Nat->Int):Prop where
 iL:Jl E n pl I
 kE:MO E n pl I k j
 kn:∀x,x<n->pl x<j->Kn I x
 all:k=0\/∀x,x<n->Kn I x
 z:I 0=-1
theorem Kr.step{E:Nat->List Nat}{n:Nat}{i:Nat->Nat}{k j b:Nat}{a:Nat->Int}{z:Int}(c:DZ E n i)(h:Kr E n i k j I)(d:b<n)(f:b≠0)(F:i b=j)(D:Bj n I (BC E n b) z)(l:∀y,a y=if y=b then z else I y):Kr E n i k (j+1) a:=by
 subst F;have r:=Hs E n b;obtain⟨m,C,t,u,v,w⟩:=J5 c h.iL d f r h.kn D;have A:∀y,y≠b->I y=a y:= λy G=>by rw[l y,lS G]
 have p:a b=(m:Int):=by rw[l b,lZ rfl,C]
 obtain⟨B,s,H,L⟩:=h.iL.set c d f r h.kn t u v w A p;refine⟨B,h.kE.set c h.iL d f r h.kn h.all t u v w A p, λx g N=> ?_,h.all.imp id λq x g=>s x (q x g),?_⟩
 . by_cases e:x=b
   . subst e;exact .inr (by rw[p];omega)
   refine s x (h.kn x g ?_);have:=c.inj x b g d;omega
 rw[l 0,lS (Ne.symm f)];exact h.z
structure Pz(E:Nat->List Nat)(n:Nat)(pl:Nat->Nat)(I:Nat->Int):Prop where
 iL:Jl E n pl I
 all:∀x,x<n->Kn I x
 jt:∀d x,x<n->(Ev I d x↔C9 E d x)
 z:I 0=-1
theorem WO(D:DataW Unit)(z y:Int):Go.Maps.has (D.del (.int Af z)) (.int Af y)=(Go.Maps.has D (.int Af y)&& !decide (y=z)):=by
 by_cases h:y=z
 . subst h;rw[Go.Maps.has_del_same];simp
 rw[Go.Maps.has_del_other (λe=>h (by cases e;rfl))];simp[h]
theorem Vv(G n gN cN L cO:Nat)(R:List Nat)(w:Y)(hn:n<=1024)(O:∀x∈R,x<n)(au:R.length<=1024)(B:w.cell? G=K (Z gN n cN))(p:w.cell? ⟨G,2,M⟩=K (Z L R cO))(N:∀k x:Nat,R[k]?=K x->w.cell? ⟨L,k,M⟩=K (.int Af (x:Int))):
 Ai Ap 115 #[.pointer G] w λe w'=>∃(g cap:Nat) (c:List Int),e=Al (Z g c cap)/\Ab w' w 2 1 (Z g c cap) c (Ad As c)/\c.Pairwise (· < ·)/\(∀z,z∈c↔∃x:Nat,z=(x:Int)/\x<n/\x∉R)/\Ah w w w':=by
 have H:=Av (d5 B (d5 p (d5 N O)));have aE:= @run_makeMap Ap;have A:=Aq w (.map #[] 0);have c0:=Au A B;have v:Ae (AP (Ac w (.map #[] 0)) w 0 (.map [])/\Ah w w (Ac w (.map #[] 0))):=⟨World.ownsMap_made _ _ _ _,A⟩
 clear B p N O A;go_enter func115,ntmps115;go_wp2;go_loopw [13] (λi wr=>∃k:Nat,k<=n/\i=.int Af k/\Ae (∃b D,b<=k/\AP wr w b D/\(∀z:Int,Go.Maps.has D (.int Af z)=decide (0<=z/\z<(k:Int)))/\Ah w w wr)) (λi _=>n-(intOf i).toNat)
 case atStart=>exact⟨0,oM,rfl,0,.map [],oM,v.1, λz=>by
  have:¬(0<=z/\z<((0:Nat):Int)):=oM
  simp only[this,decide_false];rfl,v.2⟩
 case round=>
  clear v c0;obtain⟨k,hk,rfl,m⟩:=hrel;obtain⟨b,D,aw,h,f,d⟩:=m.o;have a:=Av (d5 h (d5 f d));clear h f d m;by_cases aA:k<n
  . have am:(k:Int)<(n:Int):=oM;have l:Ae ((Ac wr (Ak #[k] 2)) wr=K ↑k/\AP (Ac wr (Ak #[k] 2)) w b D/\¬(wr:Nat)= ↑w/\Ah w w (Ac wr (Ak #[k] 2))):=⟨(AA.new wr #[k] 2).cell 0,a.1.a7 (Aq _ _),by have:=nj a.1;omega,Ar a.2.2 lR (Aq _ _)⟩
    go_wp2_with fail;refine(Db w b wr 1 D (k:Int) _ (Dh oM) oM l.1 l.2.2.1 l.2.1).mono ?_;rintro e X ⟨rfl,W,F⟩;have u:Ae (∃b D,b<=k+1/\AP X w b D/\(∀z:Int,Go.Maps.has D (.int Af z)=decide (0<=z/\z<((k+1:Nat):Int)))/\Ah w w X):=by refine⟨_,_,oM,W, λz=> ?_,l.2.2.2.grown F l.2.2.2.size (λj s=>by cases s;exact Nat.le_refl _)⟩;rw[Er D (nV a.1),a.2.1 z,oR];simp;omega
    clear W F;go_wp2;go_roundw;(case rel=>exact⟨k+1,oM,by go_num,u⟩);exact oI
  have ae:k=n:=oM;have am:¬(k:Int)<(n:Int):=oM;rw[ae]at a;have c2:=Au a.2.2 H.2.1;go_wp2;go_loopw [26] (λi wr=>∃j:Nat,j<= ↑R/\i=.int Af j/\Ae (∃D,AP wr w b D/\(∀z:Int,Go.Maps.has D (.int Af z)=(decide (0<=z/\z<(n:Int))&& !(ints (R.take j)).contains z))/\Ah w w wr)) (λi _=> ↑R-(intOf i).toNat)
  case atStart=>exact⟨0,oM,rfl,D,a.1, λz=>by rw[a.2.1 z];simp[ints],a.2.2⟩
  clear a c2;obtain⟨j,s,rfl,m⟩:=hrel;obtain⟨D,h,f,d⟩:=m.o;clear m;by_cases ah:j< ↑R
  . have aj:(j:Int)<(R:Int):=oM;obtain⟨x,t⟩:∃x,R[j]?=K x:=⟨_,an ah⟩;have aF:x<n:=H.2.2.2 x (lA t);have o0:=Au d (H.2.2.1 j x t);(have HT:Ae (R.take (j+1)=R.take j++[x]):=by obtain⟨hl,rfl⟩:=i8.1 t;exact l8 hl);have a:Ae ((∀z:Int,Go.Maps.has D (.int Af z)=(decide (0<=z/\z<(n:Int))&& !(ints (R.take j)).contains z))/\Ah w w wr):=⟨f,d⟩
    have Q:wr.ownsMap Ap 2 (unitElem (H:=Unit)) w b D:=h;have ao:=Dh (x:=x) oM;clear t f d h;go_wp2_with (at_delete;refine wpList_delete_own _ rfl _ _ 158 2 rfl 56 EY underlying158 _ w b D rfl Q _ _ rfl (oD underlying2 ao) ?_;intro w1 S U);have u:Ae (∃D,AP w1 w b D/\(∀z:Int,Go.Maps.has D (.int Af z)=(decide (0<=z/\z<(n:Int))&& !(ints (R.take (j+1))).contains z))/\Ah w w w1):=by refine⟨_,S, λz=> ?_,a.2.grown U.grown a.2.size (λj s=>by cases s;exact Nat.le_refl _)⟩;rw[WO,a.1 z,HT];unfold ints;rw[m9,Bool.and_assoc];(congr 1);rw[oR];simp
    clear S U o0 Q;go_roundw;(case rel=>exact⟨j+1,oM,by go_num,u⟩);exact oI
  have aq:j=R.length:=oM;have aj:¬(j:Int)<(R:Int):=oM;have a:Ae ((∀z:Int,Go.Maps.has D (.int Af z)=(decide (0<=z/\z<(n:Int))&& !(ints R).contains z))/\Ah w w wr/\AP wr w b D):=by rw[mC oM]at f;exact⟨f,d,h⟩
  clear f d h;go_wp2_with fail;refine(Jg w b D _ oM a.2.2).mono ?_;rintro e u9 ⟨I,E,c,rfl,V,T,P,C⟩;have r:Ae (Ab u9 w 2 1 (Z I c E) c (Ad As c)/\c.Pairwise (· < ·)/\(∀z,z∈c↔∃x:Nat,z=(x:Int)/\x<n/\x∉R)/\Ah w w u9):=by
   refine⟨Bb V a.2.1.size,T, λz=> ?_,Ar a.2.1 lR C⟩;rw[P,a.1 z];simp only[nO,my,Bool.not_eq_true',List.contains_eq_mem,oW];unfold ints;constructor
   . rintro⟨_,⟨h1,p⟩,h3⟩;refine⟨z.toNat,oM,oM, λq=>h3 (mG.2 ⟨z.toNat,q,oM⟩)⟩
   rintro⟨x,rfl,h1,p⟩;refine⟨Dh oM,⟨oM,oM⟩, λq=>p ?_⟩;obtain⟨y,hy,e⟩:=mG.1 q;have:y=x:=oM;rw[<-this];exact hy
  clear V T P C;go_wp2;go_ret;exact⟨I,E,c,rfl,r.1,r.2.1,r.2.2.1,r.2.2.2⟩
end Go.Proofs.YtadcneiiokbofaaGreat
