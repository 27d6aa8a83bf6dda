import Derived.Test.YtkgohaigebcgoaaGreatDoorCh4
import Derived.Deep.AppendLies
import Derived.Deep.RegionLaw
import Derived.Deep.RegionHeld3
namespace Go.Proofs.YtkgohaigebcgoaaGreatDoor
open Go.ChangeShapes Go.WideShapes Go.ChangeAt Go.RowKit Go.Proofs.Tryz
set_option linter.unusedVariables false
open Go.Value renaming slice → Z,int → Ag,agg → An,bool → Ao
open Option renaming some → K,none → M
open Go renaming Value → J,World → Y,Calls → Ai,TypeId → Aj
open Go.RowKit renaming Hid → Ae,Below → Ah
open Go.Proofs.Tryz renaming prog → Aq
open Go.IntKind renaming i64 → Af
open List renaming flatMap → Ad
open Go.World renaming ownsRow → Ab,alloc → Ac,setCell → Aa
open Go.Obj renaming cells → Ak
open Go.Ending renaming returned → Am
set_option maxHeartbeats 2000000
set_option maxRecDepth 100000
variable {w f u:Y}{e t:Aj}{d s v j c a g x3:J}{k n b B:Nat}{m:MB}{xs ys:List J}{p:MP}{q:Prop}{fs:List MF}{done:List Int}
def Bu(fs:List MF):Prop:=¬fs.length=0/\fs.length<=32/\(∀j,j<fs.length->∀f,fs[j]?=K f->Cb f)/\∀f,fs[0]?=K f->Wg f
theorem Nl(s:J)(fs:List MF)(w:Y)(hL:fs.length<=1048576)(hs:∀f∈fs,f.small)(h:R8 w s fs):
 Ai Aq 122 #[s] w λe w'=>AM e (Bu fs)/\Ah w.heap.size w w':=by
 obtain⟨xs,U,T,aq⟩:=h;have ax:xs.length=fs.length:=by rw[<-U];simp
 have d:=Aw (lN T (lN U (lN aq (lN hs ax))));obtain⟨a1,c1,rfl⟩:=T.aD;generalize aa:fs.length=n at hL d;have z:=Aw aa;by_cases E:n=0
 . subst E;(have t:Ae (¬Bu fs):= λe=>e.1 z);go_enter func122,ntmps122;go_wp2;go_ret;exact⟨.no t,mP _ _⟩
 have aG:((n:Int)==0)=false:=by simpa using E
 by_cases q1:32<n
 . (have t:Ae (¬Bu fs):= λe=>absurd e.2.1 (by rw[z];omega));have aA:(32:Int)<(n:Int):=oM;go_enter func122,ntmps122;go_wp2;go_ret;exact⟨.no t,mP _ _⟩
 have aA:¬(32:Int)<(n:Int):=oM;go_enter func122,ntmps122;go_wp2;go_loopw [15] (λi wr=>∃k:Nat,k<=n/\i=iZ k/\Ae (∀j,j<k->∀f,fs[j]?=K f->Cb f)/\Ae (Ah w w wr)) (λi _=>n-(intOf i).toNat)
 case atStart=>exact⟨0,oM,rfl, λj hj=>oM,mP _ _⟩
 obtain⟨k,hk,rfl,H,l⟩:=hrel;by_cases S:k<n
 . obtain⟨⟨f,v⟩,p⟩:∃x,xs[k]?=K x:=⟨_,an (by rw[d.2.2.2.2];exact S)⟩;have m:=FU d.2.1 p;have a:=Aw (lN ((d.2.2.1 _ (lP p)).av l lR) (lN (d.2.2.2.1 _ (lP m)) m));rcases d.1.2 with⟨e0,_⟩|⟨b,o,c,m,y⟩
   . omega
   simp only[lU,mj]at m;obtain⟨rfl,rfl⟩:=m;have q:=Rd.elem AK y k _ p 0 _ rfl;have r:=Rd.elem AK y k _ p 1 _ rfl;have C:=Rd.elem AK y k _ p 2 _ rfl;have D:=Rd.elem AK y k _ p 3 _ rfl;rw[<-l.cell (lT q),mL]at q;rw[<-l.cell (lT r)]at r;rw[<-l.cell (lT C)]at C;rw[<-l.cell (lT D)]at D;simp only[]at q r C D;obtain⟨I,L,A⟩:=a.1.1.aD;obtain⟨al,cl,O⟩:=a.1.2.1.aD;obtain⟨ac,cc,N⟩:=a.1.2.2.aD;obtain⟨vp,vl,vc⟩:=v;simp only[]at A O N q r C D;subst A O N;have nb:¬b=wr.heap.size:=nZ (lT q);have mb:b<wr.heap.size:=lT q;go_wp2_with fail;(have X:= λW (hW:Ah wr wr W)=>Nk ⟨Z I f.aP L,Z al f.aB cl,Z ac f.aU cc⟩ f W a.2.1 (a.1.av hW lR));refine(X _ (Al _ _)).mono ?_;rintro e u ⟨⟨b0,rfl,P⟩,aj⟩;have G:Ae (Ah w w u):=Ar l lR (Ar (Al _ _) lR aj);cases b0
   . (have t:Ae (¬Bu fs):= λe=>by have:=e.2.2.1 k (by rw[z];exact S) f a.2.2;simp[this]at P);go_wp2;go_ret;exact⟨.no t,G⟩
   have HC:Ae (Cb f):=P.1 rfl;go_wp2;go_roundw;(case rel=>exact⟨k+1,oM,by go_num,Gx a.2.2 HC H,G⟩);exact oI
 have au:n=k:=oM;subst au;obtain⟨⟨f,v⟩,p⟩:∃x,xs[0]?=K x:=⟨_,an (by rw[d.2.2.2.2];omega)⟩;have m:=FU d.2.1 p;have a:=Aw (lN ((d.2.2.1 _ (lP p)).av l lR) (lN (d.2.2.2.1 _ (lP m)) m));rcases d.1.2 with⟨e0,_⟩|⟨b,o,c,m,y⟩
 . omega
 simp only[lU,mj]at m;obtain⟨rfl,rfl⟩:=m;have q:=Rd.elem AK y 0 _ p 0 _ rfl;have r:=Rd.elem AK y 0 _ p 1 _ rfl;rw[<-l.cell (lT q)]at q;simp only[Nat.zero_mul,mL]at q;rw[<-l.cell (lT r),Nat.zero_mul,mL]at r;obtain⟨I,L,A⟩:=a.1.1.aD;obtain⟨vp,vl,vc⟩:=v;simp only[]at A q r;subst A;have HM:Ae (Bu fs↔Wg f):=by show _↔_;refine⟨λe=>e.2.2.2 f a.2.2, λe=>⟨by rw[z];exact E,by rw[z];omega,by rw[z];exact H, λg Q=> ?_⟩⟩;rw[a.2.2]at Q;exact(mD Q)▸e
 have aF:=a.2.1.1;generalize ae:f.aP.length=V at*;generalize ai:f.cu=R at*;have B:=Aw (lN ae ai);have aE:(0:Int)<(n:Int):=oM;by_cases F:V=0
 . subst F;(have HY:Ae ((R==0)=true↔Bu fs):=by show _↔_;rw[HM.o,beq_iff_eq];exact⟨λe=>⟨B.1,B.2.trans e⟩, λe=>B.2.symm.trans e.2⟩);go_wp2;go_ret;exact⟨.of HY,l⟩
 have aH:((V:Int)==0)=false:=by simpa using F
 have t:Ae (¬Bu fs):= λe=>F (B.1.symm.trans (HM.1 e).1)
 go_wp2;go_ret;exact⟨.no t,l⟩
def EM(q:MC->Int->Prop)(a:List MC)(ts:List Int):Prop:=a.length=ts.length/\∀j,j<a.length->∀v,a[j]?=K v->∀t,ts[j]?=K t->q v t
theorem Kx(q:MC->Int->Prop)(S:∀(x:MC) (t:Int) (w:Y),0<=x.word->Ai Aq 117 #[An #[Ag Af x.type,Ag .u32 x.word],Ag Af t] w λe y=>AM e (q x t)/\Ah w w y)
 (s s':J) (a:List MC) (ts:List Int) (w:Y) (hL:a.length<=1048576) (ae:ts.length<=1048576) (hw:∀x∈a,0<=x.word) (h:Rd w 2 s a (Ad MC.cells a)) (D:Rd w 1 s' ts (Ad At ts)):
 Ai Aq 116 #[s,s',.func (.func 117) #[] #[]] w λe y=>AM e (EM q a ts)/\Ah w w y:=by
 have A:Ae (Rd w 2 s a (Ad MC.cells a)/\∀x∈a,0<=x.word):=⟨h,hw⟩
 have B:Ae (Rd w 1 s' ts (Ad At ts)):=D;have X:Ae (∀(x:MC) (t:Int) (w:Y),0<=x.word->Ai Aq 117 #[An #[Ag Af x.type,Ag .u32 x.word],t] w λe y=>AM e (q x t)/\Ah w w y):=S
 obtain⟨a1,c1,rfl⟩:=h.aD;obtain⟨a2,c2,rfl⟩:=D.aD;clear h D hw S;by_cases l:a.length= ↑ts
 . rw [<-l]at B⊢;clear ae;generalize T:a.length=n at hL A B l;have f:Ae (↑a=n/\ ↑ts=n):=⟨T,l.symm⟩
   clear T l;go_enter func116,ntmps116;go_wp2;go_loopw [17] (λi wr=>∃k:Nat,k<=n/\i=Ag Af k/\Ae (∀j,j<k->∀v,a[j]?=K v->∀t,ts[j]?=K t->q v t)/\Ae (Ah w w wr)) (λi _=>n-(intOf i).toNat)
   (case atStart=>exact⟨0,oM,rfl, λj hj=>oM,mP _ _⟩);obtain⟨k,hk,rfl,O,d⟩:=hrel;by_cases F:k<n
   . obtain⟨x,m⟩:∃x,a[k]?=K x:=⟨_,an (by rw[f.1];exact F)⟩;obtain⟨t,G⟩:∃x,ts[k]?=K x:=⟨_,an (by rw[f.2];exact F)⟩;rcases A.1.2 with⟨e0,_⟩|⟨b,o,c,Q,E⟩
     . omega
     rcases B.2 with⟨e0,_⟩|⟨P,o',c',R,V⟩
     . omega
     simp only[lU,mj]at Q R;obtain⟨rfl,rfl⟩:=Q;obtain⟨rfl,rfl⟩:=R;have p:=Rd.elem MC.bW E k _ m 0 _ rfl;have L:=Rd.elem MC.bW E k _ m 1 _ rfl;have r:=Rd.elem AE V k _ G 0 _ rfl;rw[<-d.cell (lT p),mL]at p;rw[<-d.cell (lT L)]at L;rw[<-d.cell (lT r),nX,mL]at r;have g:Ae (x∈a/\a[k]?=K x/\ts[k]?=K t):=⟨lP m,m,G⟩
     have nb:¬b=wr.heap.size:=nZ (lT p);have mb:b<wr.heap.size:=lT p;have aq:¬P=wr.heap.size:=nZ (lT r);have aj:P<wr.heap.size:=lT r;clear E V m G;go_wp2_with fail;refine(X.o x t _ (A.2 x g.1)).mono ?_;rintro e u ⟨⟨b0,rfl,z⟩,U⟩;have N:Ae (Ah w w u):=Ar (Ar d lR (Al _ _)) lR U;clear U d p L r nb mb aq aj;cases b0
     . (have C:Ae (¬EM q a ts):= λe=>absurd (z.2 (e.2 k (by rw[f.1];exact F) x g.2.1 t g.2.2)) nU);clear z;go_wp2;go_ret;exact⟨.no C,N⟩
     have W:Ae (q x t):=z.1 rfl;clear z;have aa:Ae (∀j,j<k+1->∀v,a[j]?=K v->∀t,ts[j]?=K t->q v t):= λj hj v I t' H=>by
      by_cases e:j=k
      . subst e;rw[g.2.1]at I;rw[g.2.2]at H;obtain rfl:=mD I;obtain rfl:=mD H;exact W
      exact O.o j oM v I t' H
     go_wp2;go_roundw;(case rel=>exact⟨k+1,oM,by go_num,aa,N⟩);exact oI
   have ai:n=k:=oM;subst ai;have HY:Ae (EM q a ts):=⟨by rw[f.1,f.2],by rw[f.1];exact O⟩;go_wp2;go_ret;exact⟨.iQ HY,d⟩
 have C:Ae (¬EM q a ts):= λe=>l e.1
 have au:¬(a:Int)=(ts:Int):=oM;go_enter func116,ntmps116;go_wp2;go_ret;exact⟨.no C,mP _ _⟩
theorem H9{base B:Nat}{d:Aj}{z m:Nat}{j:List J}(h:Ab w base e k s n xs)(r:w.grownBy f v.ownBlock)(u:Ab w B d z v m j)(t:e≠d):Ab f base e k s n xs:=by
 refine⟨h.1,?_⟩;rcases h.2 with h|⟨g,cap,l,p,q,b,y⟩
 . exact .inl h
 refine .inr ⟨g,cap,l,p,q,?_,y⟩;rw[r.block g (mH.1 b).1 ?_]
 . exact b
 intro c;rcases u.2 with⟨rfl,_⟩|⟨D,A,C,rfl,_,a,_⟩
 . cases c
 simp only[Value.ownBlock,lX]at c;subst c;rw[b]at a;simp only[lX,nz]at a;exact t a.2.1
def bc0(m:MB):List J:=[m.cz,m.last,Z M 0 0]
theorem Ma(xs:List MI)(n:Nat)(h:1<=n)(m:MB)(d:m∈K5 xs n):∃e:Nat,m.last=(e:Int)/\e<n:=by
 rw[Cu]at d;unfold build at d;obtain⟨i,b⟩:=nB d;rw[oR]at b;cases h1:(CY xs n)[i]? with
 |none=>rw[h1]at b;simp at b
 | some a =>
   cases h2:((CY xs n).tail++[n])[i]? with
   |none=>rw[h1,h2]at b;simp at b
   | some q=>
     rw[h1,h2]at b;simp only[lX]at b;subst b;have j:1<=q/\q<=n:=by
      rcases mA.1 (lP h2)with c|c
      . have f:=DC xs n;have g:=((Df xs n q).1 (pQ c)).1;cases hL:CY xs n with
        |nil=>rw[hL]at c;cases c
        | cons y r=>rw[hL]at f c;have:=(my.1 f).1 q c;omega
      simp at c;omega
     exact⟨q-1,oS,oM⟩
theorem C6{b:Y}{base:Nat}{row:Option Nat}(h:Ab w base e k s n xs)(f:w.grownBy b row)(j:∀g,s.ownBlock=K g->K g≠row):Ab b base e k s n xs:=by
 refine⟨h.1,?_⟩;rcases h.2 with h|⟨g,cap,c,rfl,d,a,l⟩
 . exact .inl h
 refine .inr ⟨g,cap,c,rfl,d,?_,l⟩;rw[f.block g (mH.1 a).1 (j g rfl)];exact a
def ID(x y:J×List MC):Prop:=∀g,x.1.ownBlock=K g->y.1.ownBlock≠K g
theorem ID.symm{x y:J×List MC}(h:ID x y):ID y x:= λg a e=>h g e a
structure Co(w:Y)(base:Nat)(L:List (J×List MC)):Prop where
 own:∀x∈L,Ab w base 193 2 x.1 x.2 (x.2.flatMap MC.cells)
 sep:L.Pairwise ID
structure Z9(base:Nat)(w w':Y):Prop where
 cq:Ah base w w'
 eI:∀(k:Nat) (cur:Array J) (t:Aj),w.heap[k]?=K (Obj.cells cur t (0,0))->t≠193->w'.heap[k]?=K (Obj.cells cur t (0,0))
theorem Z9.jY{base n:Nat}(d:Ab w base 193 2 s n xs)(a:w.grownBy f s.ownBlock)(p:base<= ↑w):Z9 base w f:=by
 refine⟨⟨a.os,a.tape,a.output,a.size, λk b=>a.block k oM (λe=>by have:=(d.lt k e.symm).1;omega)⟩, λk j t b g=> ?_⟩;rw[a.block k (mH.1 b).1 ?_]
 . exact b
 intro e;rcases d.2 with⟨rfl,_⟩|⟨m,h,l,rfl,_,c,_⟩
 . cases e
 simp only[Value.ownBlock,lX]at e;subst e;rw[b]at c;simp only[lX,nz]at c;exact g c.2.1
theorem Z9.own{base b:Nat}{d:Y}(h:Z9 base w d)(c:Ab w b e k s n xs)(l:e≠193):Ab d b e k s n xs:=by
 refine⟨c.1,?_⟩;rcases c.2 with j|⟨g,cap,a,f,m,p,q⟩
 . exact .inl j
 exact .inr ⟨g,cap,a,f,m,h.eI g a e p l,q⟩
theorem Co.put{l:Y}{base:Nat}{A B:List (J×List MC)}{c c':List MC}(h:Co w base (A++(v,c)::B))(r:c'.length= ↑c)(s:Ab l base 193 2 v c (Ad MC.cells c'))(n:w.grownBy l v.ownBlock):Co l base (A++(v,c')::B):=by
 obtain⟨u,z,k⟩:=nI.1 h.sep;obtain⟨p,C⟩:=my.1 z;refine⟨λx d=> ?_,nI.2 ⟨u,my.2 ⟨λy t=>p y t,C⟩, λa m b f=> ?_⟩⟩
 . rcases mA.1 d with d|d
   . exact C6 (h.own x (mA.2 (.inl d))) n (λg j e=>k x d (v,c) sP g j e.symm)
   rcases lW.1 d with rfl|d
   . simp only[];rw[r];exact s
   exact C6 (h.own x (mA.2 (.inr (nA _ d)))) n (λg j e=>p x d g e.symm j)
 rcases lW.1 f with rfl|f
 . exact λg q=>k a m (v,c) sP g q
 exact k a m b (nA _ f)
def IE(p:MP)(f:MF):Prop:=∀k,k<f.aU.length->∀x,f.aU[k]?=K x->AV p f x
def DU(p:MP):Prop:=∀j,j<p.aC.length->∀f,p.aC[j]?=K f->IE p f
def AY(p:MP)(n:Int):Prop:=
 (n=1/\¬A7 p.az)\/(n=2/\A7 p.az/\¬Bz p.b8)\/(n=3/\A7 p.az/\Bz p.b8/\¬Bu p.aC)\/
 (n=4/\A7 p.az/\Bz p.b8/\Bu p.aC/\¬DU p)\/(n=5/\A7 p.az/\Bz p.b8/\Bu p.aC/\DU p/\¬Cw p)\/
 (n=0/\A7 p.az/\Bz p.b8/\Bu p.aC/\DU p/\Cw p)
theorem AY.one{n m:Int}(h:AY p n)(a:AY p m):n=m:=by unfold AY at h a;by_cases b:A7 p.az<;>by_cases c:Bz p.b8<;>by_cases d:Bu p.aC<;>by_cases e:DU p<;>by_cases f:Cw p<;>simp[b,c,d,e,f]at h a<;>omega
structure OL(w u:Y)(a b c d:J):Prop where
 cq:Ah w w u
 prog:Kg u w a b c d
theorem OL.av{b:J}(h:OL w u a b c d)(e:Ah u u f):OL w f a b c d:=⟨Ar h.cq lR e,h.prog.av e⟩
theorem OL.of(w:Y)(a b c d:J)(t:Aj):OL w (Ac w (Ak #[a,b,c,d] t)) a b c d:=⟨Al _ _,Kg.new _ _ _ _ _ _⟩
structure Pg(w:Y)(vr vk vf vt:J)(p:MP)(xs:List (List Int×J))(ys:List (MF×VF)):Prop where
 small:p.small
 wf:p.wf
 rd:Eb w ⟨vr,vk,vf,vt⟩ p
 rr:Rd w 1 vr p.az (Ad Hy xs)
 rm:xs.map Prod.fst=p.az
 re:∀x∈xs,Rd w 1 x.2 x.1 (x.1.flatMap At)
 rl:xs.length= ↑p.az
 fr:Rd w 4 vf p.aC (Ad GH ys)
 fm:ys.map Prod.fst=p.aC
 fe:∀x∈ys,FD w x.2 x.1
 fl:ys.length= ↑p.aC
theorem Pg.of{v:VP}(e:p.small)(hw:p.wf)(h:Eb w v p):∃xs ys,Pg w v.r v.k v.f v.t p xs ys:=by obtain⟨xs,a,c,d⟩:=h.az;obtain⟨ys,b,g,j⟩:=h.aC;exact⟨xs,ys,e,hw,h,c,a,d,by rw[<-a];simp,g,b,j,by rw[<-b];simp⟩
def sH(b:Bool):List J:=[b]
theorem rN{j g d r f c c':Nat}{b:Aj}(h:Ab u B e k (sG g n c) n xs)(m:Ab u j b r (sG d f c') f ys)(q:e≠b):¬g=d:= λl=>by subst l;obtain⟨_,s,p⟩:=AZ h;obtain⟨_,t,a⟩:=AZ m;rw[p]at a;simp only[lX,nz]at a;exact q a.2.1
theorem Mu{f g p d c:Nat}{b:Aj}(h:Ab u B e k s n xs)(j:Ab u f b p (sG g d c) d ys)(m:e≠b)(i:Nat)(z:J):Ab (Aa u ⟨g,i,M⟩ z) B e k s n xs:=by obtain⟨_,r,l⟩:=AZ j;exact mR h (a:=⟨g,i,M⟩) (λq=>FA h l m _ q rfl) z
theorem sk(n:Nat):(madeCells (Value.bool false).cells (n*1)).toList=List.replicate n (Ao false):=by rw[DM sH [false] [] n false 1 rfl rfl oM];simp[CK,List.flatten_replicate_singleton]
theorem Mf(n:Nat)(f:Nat->List J)(ys:List Nat):(madeCells (Ag Af 0).cells (n*1)).toList=CK f [iZ 0] ys 0 n:=by rw[DM f [iZ 0] ys n (iZ 0) 1 rfl rfl oM]
def Jy(x:J×List MC):List J:=[x.1]
theorem Pv(x:J×List MC):(Jy x).length=1:=rfl
theorem BG{base b:Nat}(h:Ab w base e k v n xs)(d:b<=base):Ab w b e k v n xs:=⟨h.1,h.2.imp id λ⟨g,cap,a,c,f,r⟩=>⟨g,cap,a,c,mC d f,r⟩⟩
theorem Cf{Q:Exit->Act->Y->Prop}{a:Act}{U:Y}(P:Y->Prop)(h:P U)(k:∀u,P u->Q .normal a u):Q .normal a U:=k U h
theorem Az{W:Y}(b:Ah W W u){a:Addr}{x:J}(h:W a=K x):u a=K x:=by rw[b.cell (lT h)];exact h
def Rw(xs:List MI)(m:MB):MB:=⟨m.cz,m.last,Q6 xs (xs.getD m.last.toNat ⟨0,0,0,0⟩) m.last.toNat⟩
def AR(xs:List MI):List MB:=(K5 xs xs).map (Rw xs)
theorem Fw(U:Y)(z:Int):∀j u,[(iZ z:J)][j]?=K u->(Ac U (Ak #[z] 2)) ((⟨U,0,M⟩:Addr).add j)=K u:= λj u a=>by rw[Cq,m9,(Ay.new U #[z] 2).cell j];simpa using a
theorem Kd(h:q:=by go_enter func48,ntmps48;go_wp2;go_ret;exact⟨rfl,rfl⟩):q:=h
theorem A6(n:Int)(c:Int)(w:Y):
 Ai Aq 48 #[n,c] w λe b=>e=Am (Ao (decide (0<=n/\n<c)))/\b=w:=by
 by_cases d:n<0
 . rw[nC (by omega:¬(0<=n/\n<c))]
   have a:¬0<=n:=oM;exact Kd
 have a:0<=n:=oM;by_cases f:n<c
 . rw[decide_eq_true (by omega:0<=n/\n<c)]
   exact Kd
 rw[nC (by omega:¬(0<=n/\n<c))]
 exact Kd
theorem Ke(h:q:=by go_wp2;all_goals(go_ret;refine⟨AM.of ?_,rfl⟩;go_light;simp_all [BW])):q:=h
theorem FR(F t:Int)(w:Y)(a:F=5\/F=6\/F=7):Ai Aq 186 #[F,t] w λe b=>AM e (BW F t)/\b=w:=by
 rcases a with rfl|rfl|rfl
 . go_enter func186,ntmps186;exact Ke
 . go_enter func186,ntmps186;exact Ke
 go_enter func186,ntmps186;go_wp2_with fail;refine(Ce t _).mono ?_;rintro e u ⟨rfl,rfl⟩;exact Ke
structure PP(w:Y)(b:Nat)(x0 x1 x2 x3 x4 x5 x6 x7:J):Prop where
 c0:w b=K x0
 c1:w ⟨b,1,M⟩=K x1
 c2:w ⟨b,2,M⟩=K x2
 c3:w ⟨b,3,M⟩=K x3
 c4:w ⟨b,4,M⟩=K x4
 c5:w ⟨b,5,M⟩=K x5
 c6:w ⟨b,6,M⟩=K x6
 c7:w ⟨b,7,M⟩=K x7
theorem PP.lt{e f:J}(h:PP w b a c d x3 e f g j):b<w.heap.size:=lT h.c0
theorem PP.av{c:Y}{e f k l:J}(h:PP w b d e f x3 g j k l)(a:Ah w w c):PP c b d e f x3 g j k l:=⟨by rw[a.cell h.lt];exact h.c0,by rw[a.cell h.lt];exact h.c1,by rw[a.cell h.lt];exact h.c2,by rw[a.cell h.lt];exact h.c3,by rw[a.cell h.lt];exact h.c4,by rw[a.cell h.lt];exact h.c5,by rw[a.cell h.lt];exact h.c6,by rw[a.cell h.lt];exact h.c7⟩
theorem PP.new(w:Y)(a b c x3 d f g j:J)(ty:Aj):PP (Ac w (Ak #[a,b,c,x3,d,f,g,j] ty)) w a b c x3 d f g j:=by have h:=pY (base:=w) (e:=ty) (size:=8) w #[a,b,c,x3,d,f,g,j] 1 lR oX sP;exact⟨h.cellAt 0 oM,h.cellAt 1 oM,h.cellAt 2 oM,h.cellAt 3 oM,h.cellAt 4 oM,h.cellAt 5 oM,h.cellAt 6 oM,h.cellAt 7 oM⟩
theorem PP.alloc{e f:J}(h:PP w b a c d x3 e f g j)(o:Obj):PP (w.alloc o) b a c d x3 e f g j:=h.av (Al _ _)
def Jd(f:MF)(n:Int):Prop:=0<=n/\n<(f.aP:Int)+(f.aB:Int)
theorem GJ(k m q x3:J)(g:VF)(f:MF)(n:Int)(w:Y)(d:f.small)(h:FD w g f):
 Ai Aq 183 #[An #[k,m,q,x3,g.p,f.cu,g.l,g.c],n] w λe j=>AM e (Jd f n)/\Ah w w j:=by
 obtain⟨r,c1,a⟩:=h.1.aD;obtain⟨s,c2,b⟩:=h.2.1.aD;obtain⟨y,vl,v⟩:=g;obtain⟨s1,s2,t⟩:=d;simp only[]at a b;subst a b;clear h;go_enter func183,ntmps183;go_wp2_with fail;refine(A6 n ((f.aP:Int)+(f.aB:Int)) _).mono ?_;rintro e u ⟨rfl,rfl⟩;go_wp2;go_ret;exact⟨.of (by unfold Jd;simp),Al _ _⟩
def C8(p:MP)(op a b:Int):Prop:=∃l,0<=a/\p.az[a.toNat]?=K l/\0<=b/\b<(l.length:Int)/\¬((op=5\/op=7)/\a=0)
theorem Kc(h:q:=by go_enter func184,ntmps184;go_wp2_with fail;refine(A6 (i:Int) 3 _).mono ?_;rintro e u ⟨rfl,rfl⟩;rw[hit];go_wp2_with fail;go_quiet ((go_at_call 48;exact Calls.quiet_of_same (A6 b (l:Int) _)));go_wp2;go_ret;exact⟨.of HD,HB.trans (AL _ _ _)⟩):q:=h
theorem OD(h:q:=by go_enter func184,ntmps184;go_wp2_with fail;refine(A6 a 3 _).mono ?_;rintro e u ⟨rfl,rfl⟩;rw[hit];go_wp2;go_ret;exact⟨.no HN,HB⟩):q:=h
theorem OE(h:q:=by go_wp2_with fail;refine(A6 0 3 _).mono ?_;rintro e u ⟨rfl,rfl⟩;go_wp2;go_ret;exact⟨.no HN,HB⟩):q:=h
theorem En(v:VP)(p:MP)(R S T U:J)(op a b c:Int)(w:Y)(P:p.small)(j:p.az.length=3)(h:Eb w v p):
 Ai Aq 184 #[An #[v.r,v.k,v.f,v.t,R,S,T,U],An #[op,a,b,c]] w λe w'=>AM e (C8 p op a b)/\Ah w w w':=by
 obtain⟨vr,vk,vf,vt⟩:=v;obtain⟨xs,F,B,O⟩:=h.az;simp only[]at B;rw[j]at B;have Q:xs.length=3:=by rw[<-j,<-F];simp
 have m:=Aw (lN B (lN F (lN O (lN P.region (lN Q j)))));clear B F O Q P h j;have HB:Ae (Ah w w (Ac (Ac w (Ak #[vr,vk,vf,vt,R,S,T,U] 109)) (Ak #[op,a,b,c] 25))):=Ar (Al _ _) lR (Al _ _);by_cases H:0<=a/\a<3
 . obtain⟨i,rfl⟩:=mJ H.1;have hi:i<3:=oM;obtain⟨⟨l,y⟩,C⟩:∃x,xs[i]?=K x:=⟨_,an (by rw[m.2.2.2.2.1];omega)⟩;have z:=FU m.2.1 C;have G:=m.2.2.1 _ (lP C);have X:=m.2.2.2.1 _ (lP z);simp only[]at z G X;rcases m.1.2 with⟨e0,_⟩|⟨g,o,cc,V,N⟩
   . omega
   subst V;have a0:=Rd.elem Dx N i _ C 0 _ rfl;rw[nX,mL]at a0;simp only[]at a0;clear N C;have I:=Aw z;clear z;obtain⟨ay,cy,rfl⟩:=G.aD;clear G;have a1:=(HB.cell (lT a0)).trans a0;have ga:¬g=w.heap.size:=nZ (lT a0);have q:Ae (C8 p op (i:Int) b↔¬((op=5\/op=7)/\(i:Int)=0)/\0<=b/\b<(l:Int)):=by
    show _↔_;constructor
    . rintro⟨l',L,A,j,D,E⟩;rw[lV,I]at A;obtain rfl:=mD A;exact⟨E,j,D⟩
    rintro⟨E,j,D⟩;exact⟨l,oM,by rw[lV];exact I,j,D,E⟩
   by_cases d:(op=5\/op=7)/\(i:Int)=0
   . (have HN:Ae (¬C8 p op (i:Int) b):= λe=>(q.1 e).1 d);obtain⟨d,q2⟩:=d;obtain rfl:i=0:=oM;rcases d with rfl|rfl
     . go_enter func184,ntmps184;exact OE
     go_enter func184,ntmps184;exact OE
   have s:((i:Int)==0)=decide (i=0):=by
    by_cases e:i=0
    . subst e;rfl
    rw[nC e];simpa using e
   have hit:decide (0<=(i:Int)/\(i:Int)<3)=true:=decide_eq_true oM
   have HD:Ae (decide (0<=b/\b<(l:Int))=true↔C8 p op (i:Int) b):=by show _↔_;rw[q.o,mo];exact⟨λe=>⟨d,e⟩, λe=>e.2⟩
   by_cases n:op=5
   . subst n;(have W:((i:Int)==0)=false:=by (have:¬i=0:= λe=>d ⟨.inl rfl,oM⟩);rw[s,nC this]);clear d q s;exact Kc
   by_cases w7:op=7
   . subst w7;(have W:((i:Int)==0)=false:=by (have:¬i=0:= λe=>d ⟨.inr rfl,oM⟩);rw[s,nC this]);clear d q s n;exact Kc
   (have aa:(op==5)=false:=by simpa using n);(have ae:(op==7)=false:=by simpa using w7);clear d q s n w7;exact Kc
 have HN:Ae (¬C8 p op a b):= λ⟨l,L,A,_⟩=>H ⟨L,by have:=(f7.1 A).1;rw[m.2.2.2.2.2]at this;omega⟩
 have hit:decide (0<=a/\a<3)=false:=nC H
 clear m;by_cases n:op=5
 . subst n;exact OD
 have aa:(op==5)=false:=by simpa using n
 exact OD
def Bl(op:Int):Int:=pw (CL op)[1]?
def CU(p:MP)(x:MI):Int:=match p.az[x.a.toNat]? with|some r=>(r[x.b.toNat]?).getD 0|none=>0
def Bn(f:MF):List Int:=if f.cu=0 then[]else[f.cu]
def AA(p:MP)(f:MF)(x:MI):List Int:=
 if x.op=3 then[AJ f x.a]else if x.op=5 then[CU p x]else if x.op=6 then[3]else if x.op=7 then[3,CU p x]
 else if(8<=x.op/\x.op<=15)\/x.op=20\/x.op=21 then[x.a,x.a]else if x.op=16\/x.op=22 then[x.a]
 else if x.op=17\/x.op=18 then[3,3]else if x.op=19 then[2]else if x.op=23\/x.op=24 then[0]else if x.op=26 then[1]
 else if x.op=28 then(match p.aC[x.a.toNat]? with|some g=>g.aP|none=>[])else[]
def Ef(x:MI):Nat:=if x.op=1\/x.op=2\/x.op=4\/x.op=6\/(8<=x.op/\x.op<=22)then 1 else if x.op=23 then 2 else 0
def C5(l:List MC)(i:Nat):MC:=(l[i]?).getD ⟨0,0⟩
def Bg(p:MP)(f:MF)(x:MI):List Int:=
 if x.op=1 then[(C5 p.b8 x.a.toNat).type]else if x.op=2 then[AJ f x.a]else if x.op=4\/x.op=6 then[CU p x]
 else if 8<=x.op/\x.op<=16 then[x.a]else if x.op=17\/x.op=18 then[3]else if x.op=19 then[2]else if x.op=20\/x.op=21 then[1]
 else if x.op=22 then[x.b]else if x.op=23 then[0,0]else if x.op=28 then(match p.aC[x.a.toNat]? with|some g=>Bn g|none=>[])else[]
theorem Nm(p:MP)(f:MF)(x:MI)(h:x.op≠28):(Bg p f x).length=Ef x:=by
 unfold Bg Ef;repeat' split
 all_goals first|rfl|(exfalso;omega)
def B9(p:MP)(f:MF)(x:MI):List Int:=if x.op=29 then Bn f else AA p f x
def Jh(f:MF):List Int:=(f.aU.filter λx=>decide (x.op=28)).map MI.a
def FX(fs:List MF)(done:List Int)(i:Nat):Bool:= !done.contains (i:Int)&&match fs[i]? with|some f=>(Jh f).all λa=>done.contains a|none=>false
def Hs(fs:List MF)(done:List Int):Option Nat:=(List.range fs).find? (FX fs done)
def Ej(fs:List MF):Nat->List Int->List Int
 |0,done=>done
 |k+1,done=>match Hs fs done with|some i=>Ej fs k (done++[(i:Int)])|none=>[]
def Dk(fs:List MF):List Int:=Ej fs fs []
theorem QX{i:Nat}(e:i< ↑fs)(b:FX fs done i=true)(c:∀j,j<i->FX fs done j=false):Hs fs done=K i:=by
 unfold Hs;rw[List.find?_eq_some_iff_append];refine⟨b,(List.range i),(List.range' (i+1) (↑fs-i-1)),?_, λa d=> ?_⟩
 . rw[List.range_eq_range',List.range_eq_range',show ↑fs=i+(1+(↑fs-i-1))from oM,<-List.range'_append_1,<-List.range'_append_1]
   simp
 rw[c a (by simpa using d)];rfl
theorem QW(h:∀j,j< ↑fs->FX fs done j=false):Hs fs done=M:=by unfold Hs;rw[List.find?_eq_none];intro a b;rw[h a (by simpa using b)];exact nU
theorem AY.ok(h:AY p 0):A7 p.az/\Bz p.b8/\Bu p.aC/\DU p/\Cw p:=by
 rcases h with h|h|h|h|h|h
 . exact absurd h.1 dC
 . exact absurd h.1 dC
 . exact absurd h.1 dC
 . exact absurd h.1 dC
 . exact absurd h.1 dC
 exact h.2
def CT(p:MP)(m:MM):Prop:=AY p 0/\∃a b c,p.az=[a,b,c]/\m.ins.length= ↑a/\Cx m.outs b/\Cx m.keeps c
theorem CT.iff{m:MM}(d:AY p 0){a b c:List Int}(h:p.az=[a,b,c]):CT p m↔m.ins.length= ↑a/\Cx m.outs b/\Cx m.keeps c:=by
 constructor
 . rintro⟨_,f,s1,s2,e,k⟩;rw[h]at e;simp only[ov,oZ]at e;obtain⟨rfl,rfl,rfl⟩:=e;exact k
 exact λk=>⟨d,a,b,c,h,k⟩
structure Wi(w:Y)(vr:J)(p:MP)(g o c:Nat)(r0 r1 r2:List Int)(y0 y1 y2:J):Prop where
 rows:vr=Z (K ⟨g,o,M⟩) 3 c
 eq:p.az=[r0,r1,r2]
 i0:w ⟨g,o,M⟩=K y0
 i1:w ⟨g,o+1,M⟩=K y1
 i2:w ⟨g,o+2,M⟩=K y2
 k0:Rd w 1 y0 r0 (Ad At r0)
 k1:Rd w 1 y1 r1 (Ad At r1)
 k2:Rd w 1 y2 r2 (Ad At r2)
theorem Wi.of{v:VP}(h:Eb w v p)(s:p.az.length=3):∃g o c j k l d e f,Wi w v.r p g o c j k l d e f:=by
 obtain⟨xs,t,u,n⟩:=h.az;have y:xs.length=3:=by rw[<-s,<-t];simp
 obtain⟨⟨j,d⟩,⟨k,e⟩,⟨l,f⟩,rfl⟩:∃a b c,xs=[a,b,c]:=by
  match xs,y with
  |[a,b,c],_=>exact⟨a,b,c,rfl⟩
 rcases u.2 with⟨z,_⟩|⟨g,o,c,q,m⟩
 . omega
 rw[s]at q;exact⟨g,o,c,j,k,l,d,e,f,q,by rw[<-t];rfl,by simpa using m 0 d rfl,m 1 e rfl,m 2 f rfl,n (j,d) sP,n (k,e) sP,n (l,f) sP⟩
def Bh(F:List (MG×J)):List (J×List MC):=F.map λx=>(x.2,x.1.aB)
theorem Bi{base g k n:Nat}{c:Array J}{f:Nat×Nat}(h:Ab w base e k s n xs)(l:w.heap[g]?=K (Obj.cells c t f))(m:e≠t):∀j,s.ownBlock=K j->j≠g:=by
 intro j b d;subst d;rcases h.2 with⟨rfl,_⟩|⟨r,p,q,rfl,_,a,_⟩
 . cases b
 simp only[Value.ownBlock,lX]at b;subst b;rw[l]at a;simp only[lX,nz]at a;exact m a.2.1.symm
theorem Co.set{base g:Nat}{L:List (J×List MC)}(h:Co w base L){c:Array J}{d:Nat×Nat}(f:w.heap[g]?=K (Obj.cells c t d))(j:193≠t)(i:Nat)(x:J):Co (Aa w ⟨g,i,M⟩ x) base L:=⟨λy b=>mR (h.own y b) (a:=⟨g,i,M⟩) (λe=>Bi (h.own y b) f j g e rfl) x,h.sep⟩
theorem Dv{base g k n c:Nat}(h:Ab w base e k (Z g n c) n xs):base<=g/\∃a,w.heap[g]?=K (Obj.cells a e (0,0)):=by
 rcases h.2 with⟨b,_⟩|⟨l,j,a,b,d,f,_⟩
 . cases b
 cases b
 exact⟨d,a,f⟩
def CX:List Int->List Int->Bool
 |[],[]=>true
 |s::ss,t::ts=>(t==0||s==t)&&CX ss ts
 |_,_=>false
theorem N6{a b:List Int}(h:CX a b=true):a.length=b.length:=by
 induction a generalizing b with
 |nil=>cases b with|nil=>rfl|cons _ _=>simp[CX]at h
 |cons v r c=>cases b with|nil=>simp[CX]at h|cons t q=>simp only[CX,mu]at h;simp[c h.2]
theorem N5{a b:List Int}(e:a.length= ↑b):CX a b=true↔∀(i:Nat) s t,a[i]?=K s->b[i]?=K t->t=0\/s=t:=by
 induction a generalizing b with
 | nil=>
   cases b with
   |nil=>simp[CX]
   |cons _ _=>simp at e
 | cons v r j=>
   cases b with
   |nil=>simp at e
   | cons t q=>
     simp only[CX,mu,Bool.or_eq_true,beq_iff_eq];rw[j (by simpa using e)];constructor
     . rintro⟨f,g⟩ i s u c d;cases i with
       |zero=>simp only[lO,lX]at c d;subst c d;exact f
       |succ i=>simp only[lS]at c d;exact g i s u c d
     intro h;exact⟨h 0 v t rfl rfl, λi s u c d=>h (i+1) s u (by simpa using c) (by simpa using d)⟩
def JV(p:MP)(f:MF)(x:MI)(a:List Int):Nat:= ↑a-(AA p f x).length
def Mr(p:MP)(f:MF)(x:MI)(a:List Int):List Int:=a.take (JV p f x a)++(Bg p f x).map λt=>if t=0 then(a[JV p f x a]?).getD 0 else t
def Hi(p:MP)(f:MF)(x:MI)(b:List Int):Int:=
 if ↑b<(AA p f x).length then 1
 else if CX (b.drop (JV p f x b)) (AA p f x)=false\/(x.op=27/\AJ f x.a≠3)then 2
 else if 64<(Mr p f x b).length then 3 else 0
def Dy(a:List MC)(ts:List Int):Prop:=a.map MC.type=ts/\∀v∈a,CH v
structure Yu(p:MP)(n:Nat)(g:MG):Prop where
 lo:0<=g.func
 aB:∃f,p.aC[g.func.toNat]?=K f/\Dy g.aB (f.aP++f.aB)
 base:g.base<=(n:Int)
def Ck:Int->List MG->Prop
 |_,[]=>True
 |b,g::r=>b<=g.base/\Ck g.base r
structure IF(p:MP)(s:MS):Prop where
 prog:AY p 0
 cost:0<=s.cost/\s.cost<=4611686018427387904
 steps:0<=s.steps/\s.steps<=4611686018427387904
 three:s.cells.length= ↑p.az
 cells:∀(i:Nat) c r,s.cells[i]?=K c->p.az[i]?=K r->Dy c r
 jy:s.stack.length<=64
 stack:∀v∈s.stack,CH v
 ne0:s.dk≠[]
 deep:s.dk.length<=32
 dk:∀g∈s.dk,Yu p s.stack g
 j9:Ck 0 s.dk
def BH:List MC->List Int->Bool
 |[],[]=>true
 |v::vs,t::ts=>(t==0||v.type==t)&&BH vs ts
 |_,_=>false
def EH(p:MP)(f:MF)(g:MG)(s:MS)(x:MI):Int:=
 let b:=s.stack.drop g.base.toNat
 let ts:=AA p f x
 if x.op=29 then(if b.map MC.type=Bn f then 0 else 6)
 else if b.length< ↑ts then 1
 else if BH (b.drop (b.length-↑ts)) ts=false\/(x.op=27/\AJ f x.a≠3)then 2
 else if x.op=28 then(if s.dk.length<32 then 0 else 5)
 else if 64< ↑s.stack-↑ts+Ef x then 3 else 0
def Du(fs:List MG)(h:MG->MG):List MG:=fs.modify (fs.length-1) h
def Eh(cs:List (List MC))(a b:Nat)(v:MC):List (List MC):=cs.modify a λr=>r.set b v
def cellAt(s:MS)(a b:Nat):MC:=C5 ((s.cells[a]?).getD []) b
def DR(p:MP)(f:MF)(g:MG)(s:MS)(x:MI):MS:=
 let n:=(AA p f x).length
 let ar:=s.stack.drop (↑s.stack-n)
 let st:=s.stack.take (↑s.stack-n)
 let d:List MG:=Du s.dk λh=>{h with at_:=g.at_+1}
 let t:MS:={s with stack:=st,dk:=d}
 let push:List MC->MS:= λe=>{t with stack:=st++e}
 if x.op=0\/x.op=24 then t
 else if x.op=1 then push [C5 p.b8 x.a.toNat]
 else if x.op=2 then push [C5 g.aB x.a.toNat]
 else if x.op=3 then{t with dk:=Du d λh=>{h with aB:=h.aB.set x.a.toNat (C5 ar 0)}}
 else if x.op=4 then push [cellAt s x.a.toNat x.b.toNat]
 else if x.op=5 then{t with cells:=Eh s.cells x.a.toNat x.b.toNat (C5 ar 0)}
 else if x.op=6 then push [cellAt s x.a.toNat (x.b.toNat+((C5 ar 0).word.toNat &&& x.c.toNat))]
 else if x.op=7 then{t with cells:=Eh s.cells x.a.toNat (x.b.toNat+((C5 ar 0).word.toNat &&& x.c.toNat)) (C5 ar 1)}
 else if x.op=16\/x.op=19 then push [⟨(C5 ar 0).type,Ds x.op (C5 ar 0).type (C5 ar 0).word 0⟩]
 else if x.op=20\/x.op=21 then push [⟨1,Ds x.op (C5 ar 0).type (C5 ar 0).word (C5 ar 1).word⟩]
 else if 8<=x.op/\x.op<=18 then push [⟨(C5 ar 0).type,Ds x.op (C5 ar 0).type (C5 ar 0).word (C5 ar 1).word⟩]
 else if x.op=22 then push [⟨x.b,M1 x.a x.b (C5 ar 0).word⟩]
 else if x.op=23 then push [C5 ar 0,C5 ar 0]
 else if x.op=25 then{t with dk:=Du d λh=>{h with at_:=x.c}}
 else if x.op=26 then(if(C5 ar 0).word=0 then{t with dk:=Du d λh=>{h with at_:=x.c}}else t)
 else if x.op=27 then(if(C5 g.aB x.a.toNat).word=0 then{t with dk:=Du d λh=>{h with at_:=x.c}}else{t with dk:=Du d λh=>{h with aB:=h.aB.modify x.a.toNat λv=>{v with word:=v.word-1}}})
 else if x.op=28 then{t with dk:=d++[⟨x.a,0,(st:Int),ar++(match p.aC[x.a.toNat]? with|some c=>c.aB.map λty=>(⟨ty,0⟩:MC)|none=>[])⟩]}
 else{s with dk:=s.dk.dropLast,done:=decide (s.dk.length=1)}
inductive Bb (p:MP) (s:MS):MS->Prop
 |jump {g:MG} {f:MF}:s.dk.getLast?=K g->p.aC[g.func.toNat]?=K f->(g.at_<0\/(f.aU:Int)<=g.at_)->Bb p s {s with trap:=4}
 |trap {g:MG} {f:MF} {x:MI} {n:Int}:s.dk.getLast?=K g->p.aC[g.func.toNat]?=K f->0<=g.at_->f.aU[g.at_.toNat]?=K x->EH p f g s x=n->n≠0->Bb p s {s with trap:=n,steps:=s.steps+1,cost:=s.cost+Bl x.op}
 |does {g:MG} {f:MF} {x:MI}:s.dk.getLast?=K g->p.aC[g.func.toNat]?=K f->0<=g.at_->f.aU[g.at_.toNat]?=K x->EH p f g s x=0->Bb p s (DR p f g {s with steps:=s.steps+1,cost:=s.cost+Bl x.op} x)
theorem Bb.one{s a b:MS}(h:Bb p s a)(c:Bb p s b):a=b:=by
 cases h with
 | jump e1 e2 e3=>
   cases c with
   |jump d1 d2 d3=>rfl
   | trap d1 d2 d3 d4 _ _=>rw[e1]at d1;obtain rfl:=mD d1;rw[e2]at d2;obtain rfl:=mD d2;have:=(f7.1 d4).1;omega
   | does d1 d2 d3 d4 _=>rw[e1]at d1;obtain rfl:=mD d1;rw[e2]at d2;obtain rfl:=mD d2;have:=(f7.1 d4).1;omega
 | trap e1 e2 e3 e4 e5 e6=>
   cases c with
   | jump d1 d2 d3=>rw[e1]at d1;obtain rfl:=mD d1;rw[e2]at d2;obtain rfl:=mD d2;have:=(f7.1 e4).1;omega
   | trap d1 d2 d3 d4 d5 d6=>rw[e1]at d1;obtain rfl:=mD d1;rw[e2]at d2;obtain rfl:=mD d2;rw[e4]at d4;obtain rfl:=mD d4;rw[<-e5,<-d5]
   | does d1 d2 d3 d4 d5=>rw[e1]at d1;obtain rfl:=mD d1;rw[e2]at d2;obtain rfl:=mD d2;rw[e4]at d4;obtain rfl:=mD d4;exact absurd (e5.symm.trans d5) e6
 | does e1 e2 e3 e4 e5=>
   cases c with
   | jump d1 d2 d3=>rw[e1]at d1;obtain rfl:=mD d1;rw[e2]at d2;obtain rfl:=mD d2;have:=(f7.1 e4).1;omega
   | trap d1 d2 d3 d4 d5 d6=>rw[e1]at d1;obtain rfl:=mD d1;rw[e2]at d2;obtain rfl:=mD d2;rw[e4]at d4;obtain rfl:=mD d4;exact absurd (d5.symm.trans e5) d6
   | does d1 d2 d3 d4 d5=>rw[e1]at d1;obtain rfl:=mD d1;rw[e2]at d2;obtain rfl:=mD d2;rw[e4]at d4;obtain rfl:=mD d4;rfl
structure ML where
 head:Int
 back:List Int
 a7:List Int
structure DQ where
 aU:Int
 at_:Int
 a7:List MB
 dr:List Int
 fv:List Int
 cv:List ML
def ints(l:List Nat):List Int:=l.map λ(x:Nat)=>(x:Int)
theorem A4(l:List Nat):(ints l).length=l.length:=by simp[ints]
def nx(a:List MB)(b:Nat):List Nat:=match a[b]? with|some m=>m.next.map Int.toNat|none=>[]
def Hc(c a:Int):DQ:=⟨c,a,[],[],[],[]⟩
def Bv(E:Nat->List Nat)(D L:Nat->Nat->Bool)(n j:Nat):List ML:=(List.range j).filterMap λh=>if AP E D n h=[]then M else K ⟨(h:Int),ints (AP E D n h),ints ((List.range n).filter (L h))⟩
inductive Ba (xs:List MI):DQ->Prop
 |none:¬Bd xs->Ba xs (Hc 4 0)
 |off {x:MI}:Bd xs->xs[xs.length-1]?=K x->IY x=true->Ba xs (Hc 1 ((xs:Int)-1))
 |lost {x:MI} {S O:List Nat} {b:Nat} {m:MB}:Bd xs->xs[xs.length-1]?=K x->IY x=false->Vs (nx (AR xs)) [] [] [0] S O->b<(AR xs).length->b∉S->(∀c,c<b->c∈S)->(AR xs)[b]?=K m->Ba xs (Hc 2 m.cz)
 |two {x:MI} {S O:List Nat} {D:Nat->Nat->Bool} {b k t:Nat} {m:MB}:Bd xs->xs[xs.length-1]?=K x->IY x=false->Vs (nx (AR xs)) [] [] [0] S O->(∀c,c<(AR xs).length->c∈S)->(∀d b,D d b=true↔Ea (nx (AR xs)) d b)->Gc (nx (AR xs)) (AR xs).length (MX O D) b k t->(AR xs)[t]?=K m->Ba xs (Hc 3 m.cz)
 |good {x:MI} {S O:List Nat} {D L:Nat->Nat->Bool} {I:Nat->Int}:Bd xs->xs[xs.length-1]?=K x->IY x=false->Vs (nx (AR xs)) [] [] [0] S O->(∀c,c<(AR xs).length->c∈S)->(∀d b,D d b=true↔Ea (nx (AR xs)) d b)->(∀b,b<(AR xs).length->∀t∈nx (AR xs) b,¬MX O D b t)->
  (∀b,b<(AR xs).length->(b=0/\I b=-1)\/b≠0/\∃c:Nat,c<(AR xs).length/\I b=(c:Int)/\Fm (nx (AR xs)) b c)->(∀h y,L h y=true↔AW (nx (AR xs)) D (AR xs).length h y)->
  Ba xs ⟨0,0,AR xs,ints O.reverse,(List.range (AR xs).length).map I,Bv (nx (AR xs)) D L (AR xs).length (AR xs).length⟩
theorem GN{xs:List MI}(h:Bd xs):0<(AR xs).length:=by unfold AR;rw[mQ,FO];exact pU.2 (Pl xs _ h.1)
theorem Pr{xs:List MI}(n:Bd xs){e:Nat}{x:MI}(f:(K5 xs xs)[b]?=K m)(k:m.last=(e:Int))(d:xs[e]?=K x){p:Int}(a:p∈Bc xs x e):p.toNat∈CY xs xs:=by
 have l:e<xs.length:=(f7.1 d).1;rw[Cu]at f;unfold Bc at a;rcases mA.1 a with a|a
 . by_cases h:IY x=true/\e+1< ↑xs
   . rw[mE h]at a;simp only[lW,lZ,mS]at a;subst a;rw[lV];exact LM _ _ _ _ _ f k h.2
   rw[lY h]at a;cases a
 by_cases h:Bt x=true/\¬(IY x=true/\e+1< ↑xs/\x.c=((e+1:Nat):Int))
 . rw[mE h]at a;simp only[lW,lZ,mS]at a;subst a;obtain⟨g,q⟩:=n.2.2 e x d h.1;have j:(x.c.toNat:Int)=x.c:=pJ g;exact(Df _ _ _).2 ⟨oM,Mc xs _ e _ x l d (by simp[Iv,h.1,j])⟩
 rw[lY h]at a;cases a
theorem Sg{L:List Nat}(p:L.Pairwise (· < ·))(c:∀x∈L,x<n)(h:(build L n)[b]?=K m):∃e:Nat,m.last=(e:Int)/\e<n:=by
 unfold build at h;rw[oR]at h;cases h1:L[b]? with
 |none=>rw[h1]at h;simp at h
 | some a=>
   cases h2:(L.tail++[n])[b]? with
   |none=>rw[h1,h2]at h;simp at h
   | some q=>
     rw[h1,h2]at h;simp only[lX]at h;subst h;have k:=c a (lP h1);have d:a<q/\q<=n:=by
      by_cases l:b< ↑L.tail
      . rw[mq l]at h2;have d:=pQ (lP h2);refine⟨?_,oq (c q d)⟩;(have j:L[b+1]?=K q:=by rw[<-h2];cases L<;>simp);obtain⟨r,f⟩:=f7.1 h1;obtain⟨s,g⟩:=f7.1 j;rw[<-f,<-g];exact(oH.1 p) b (b+1) r s oM
      rw[mg oM]at h2;have:=lP h2;simp only[lW,lZ,mS]at this;subst this;exact⟨k,Nat.le_refl _⟩
     exact⟨q-1,oS,oM⟩
theorem XJ{xs:List MI}(h:(K5 xs xs)[b]?=K m):∃(e:Nat) (x:MI),m.last=(e:Int)/\xs[e]?=K x:=by rw[Cu]at h;obtain⟨e,a,c⟩:=Sg (DC _ _) (λx d=>((Df _ _ _).1 d).1) h;exact⟨e,_,a,an c⟩
theorem I9{xs:List MI}(f:Bd xs)(h:(AR xs)[b]?=K m){z:Int}(g:z∈m.next):0<=z/\z<((AR xs).length:Int):=by
 unfold AR at h⊢;rw[mN]at h;obtain⟨j,a,rfl⟩:=nJ.1 h;obtain⟨e,x,c,d⟩:=XJ a;have k:(Rw xs j).next=Q6 xs x e:=by unfold Rw;rw[c,lV,mI,d];rfl
 rw[k,Of xs b e x j f a c d]at g;obtain⟨p,l,rfl⟩:=mV.1 g;have:=o6.2 (Pr f a c d l);rw[mQ,FO];omega
theorem TM{a:List MB}(h:a[b]?=K m):nx a b=m.next.map Int.toNat:=by unfold nx;rw[h]
theorem TL{xs:List MI}(a:Bd xs)(h:(AR xs)[b]?=K m):m.next=ints (nx (AR xs) b):=by
 rw[TM h];unfold ints;rw[ot];symm
 rw[o4 (g:=id),List.map_id];intro z c;exact pJ (I9 a h c).1
theorem Ml{xs:List MI}(d:Bd xs):∀b,b<(AR xs).length->∀x∈nx (AR xs) b,x<(AR xs).length:= λb a x c=>by rw[TM (an a)]at c;obtain⟨z,e,rfl⟩:=mV.1 c;have:=I9 d (an a) e;omega
theorem Gv{xs:List MI}(b:Bd xs):(AR xs).length<=1024:=by unfold AR;rw[mQ,FO];have:=o5 (Cz xs xs) (List.range xs);have a:=b.2.1;simp only[pO]at this;exact mC this a
theorem Mm(a:List MB)(h:∀m∈a,m.next.length<=2)(b:Nat):(nx a b).length<=2:=by
 unfold nx;cases hb:a[b]? with
 |none=>simp
 |some m=>simpa using h m (lP hb)
theorem Ib(xs:List MI):∀m∈AR xs,m.next.length<=2:=by intro f a;unfold AR at a;obtain⟨m,_,rfl⟩:=mV.1 a;simp only[Rw,Q6];split<;>split<;>simp
theorem Ba.one{xs:List MI}{r p:DQ}(h:Ba xs r)(e:Ba xs p):r=p:=by
 have k:∀{E:Nat->List Nat} {D n:Nat->Nat->Bool},(∀d b,D d b=true↔Ea E d b)->(∀d b,n d b=true↔Ea E d b)->D=n:= λz A=>by
  funext d b
  rw[pN,z,A]
 cases h with
 | none g=>
   cases e with
   |none _=>rfl
   |_ a=>exact absurd a g
 | off g x1 o1=>
   cases e with
   |none a=>exact absurd g a
   |off _ _ _=>rfl
   | lost _ x2 o2|two _ x2 o2|good _ x2 o2=>rw[x1]at x2;(cases x2);rw[o1]at o2;cases o2
 | @lost _ _ _ b m g x1 o1 v1 b1 n1 l1 m1=>
   cases e with
   |none a=>exact absurd g a
   | off _ x2 o2=>rw[x1]at x2;(cases x2);rw[o1]at o2;cases o2
   | @lost _ _ _ b' m' _ x2 o2 v2 b2 n2 l2 m2=>
     obtain⟨rfl,rfl⟩:=v1.one v2;have:b=b':=by
      rcases Nat.lt_trichotomy b b' with q|q|q
      . exact absurd (l2 _ q) n1
      . exact q
      exact absurd (l1 _ q) n2
     subst this;rw[m1]at m2;(cases m2);rfl
   | two _ _ _ v2 s2|good _ _ _ v2 s2=>obtain⟨rfl,rfl⟩:=v1.one v2;exact absurd (s2 _ b1) n1
 | two g x1 o1 v1 s1 d1 f1 m1=>
   cases e with
   |none a=>exact absurd g a
   | off _ x2 o2=>rw[x1]at x2;(cases x2);rw[o1]at o2;cases o2
   | lost _ _ _ v2 b2 n2=>obtain⟨rfl,rfl⟩:=v1.one v2;exact absurd (s1 _ b2) n2
   | two _ _ _ v2 _ d2 f2 m2=>obtain⟨rfl,rfl⟩:=v1.one v2;obtain rfl:=k d1 d2;obtain rfl:=f1.one f2;rw[m1]at m2;(cases m2);rfl
   | good _ _ _ v2 _ d2 f2=>obtain⟨rfl,rfl⟩:=v1.one v2;obtain rfl:=k d1 d2;exact absurd f1.is (f2 _ f1.lt _ (lP f1.at_))
 | good g x1 o1 v1 s1 d1 f1 i1 l1=>
   cases e with
   |none a=>exact absurd g a
   | off _ x2 o2=>rw[x1]at x2;(cases x2);rw[o1]at o2;cases o2
   | lost _ _ _ v2 b2 n2=>obtain⟨rfl,rfl⟩:=v1.one v2;exact absurd (s1 _ b2) n2
   | two _ _ _ v2 _ d2 f2 m2=>obtain⟨rfl,rfl⟩:=v1.one v2;obtain rfl:=k d1 d2;exact absurd f2.is (f1 _ f2.lt _ (lP f2.at_))
   | good _ _ _ v2 _ d2 f2 i2 l2=>
     obtain⟨rfl,rfl⟩:=v1.one v2;obtain rfl:=k d1 d2;(have B:= λh y=>pN.2 ((l1 h y).trans (l2 h y).symm));(obtain rfl:=funext λh=>funext (B h));obtain⟨C,_⟩:=DN (GN g) (Ml g) v1 s1;(congr 1);apply o4;intro b f;have f:=nN.1 f;rcases i1 b f with⟨l,v⟩|⟨l,c,c1,c2,c3⟩
     . rcases i2 b f with⟨_,w⟩|⟨j,_⟩
       . rw[v,w]
       exact absurd l j
     rcases i2 b f with⟨j,_⟩|⟨j,c',s,t,u⟩
     . exact absurd j l
     rw[c2,t,c3.one C c1 s u]
structure AB(w:Y)(base:Nat)(v:VS)(C:List (J×List MC))(K:List MC)(F:List (MG×J)):Prop where
 cells:Ab w base 45 1 v.c C (Ad Jy C)
 dk:Ab w base 132 4 v.f F (Ad BE F)
 fg:Co w base (C++[(v.k,K)]++Bh F)
def A3(trap:Int)(done:Bool)(cost steps:Int)(C:List (J×List MC))(K:List MC)(F:List (MG×J)):MS:=⟨trap,done,cost,steps,C.map Prod.snd,K,F.map Prod.fst⟩
structure Tw(C:List (J×List MC))(K:List MC)(F:List (MG×J)):Prop where
 cells:C.length<=1048576
 cell:∀x∈C,x.2.length<=1048576
 stack:K.length<=1048576
 dk:F.length<=1048576
 frame:∀x∈F,x.1.aB.length<=1048576
def A8(ts:List Int):List MC:=ts.map λt=>(⟨t,0⟩:MC)
theorem FY(ts:List Int):(A8 ts).length=ts.length:=by simp[A8]
end Go.Proofs.YtkgohaigebcgoaaGreatDoor
