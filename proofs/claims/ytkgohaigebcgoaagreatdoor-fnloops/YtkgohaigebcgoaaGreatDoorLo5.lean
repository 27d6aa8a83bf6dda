import Derived.Test.YtkgohaigebcgoaaGreatDoorLo4
import Derived.Deep.AppendLies
import Derived.Deep.RegionLaw
import Derived.Deep.RegionHeld3
namespace Go.Proofs.YtkgohaigebcgoaaGreatDoor
open Go.ChangeShapes Go.WideShapes Go.ChangeAt Go.RowKit Go.Proofs.Tryz
set_option linter.unusedVariables false
open Go.Value renaming slice → Z,int → Ag,bool → Ao,agg → An
open Option renaming none → M,some → K
open Go renaming Value → J,World → Y,TypeId → Aj,Calls → Ai
open Go.World renaming ownsRow → Ab,alloc → Ac,setCell → Aa
open Go.RowKit renaming Below → Ah,Hid → Ae
open List renaming flatMap → Ad
open Go.Obj renaming cells → Ak
open Go.IntKind renaming i64 → Af
open Go.Ending renaming returned → Am
open Go.Proofs.Tryz renaming prog → Aq
set_option maxHeartbeats 2000000
set_option maxRecDepth 100000
variable {w f u:Y}{e t:Aj}{d s v i c g x3:J}{k n b B:Nat}{m:MB}{xs ys:List J}{p:MP}{a done:List Int}{q:Prop}{fs:List MF}
theorem Er{base B:Nat}{d:Aj}{x m:Nat}{i:List J}(h:Ab w base e k s n xs)(q:w.grownBy f v.ownBlock)(t:Ab w B d x v m i)(r:e≠d):Ab f base e k s n xs:=by
 refine⟨h.1,?_⟩;rcases h.2 with h|⟨g,cap,j,l,p,b,u⟩
 . exact .inl h
 refine .inr ⟨g,cap,j,l,p,?_,u⟩;rw[q.block g (jS.1 b).1 ?_]
 . exact b
 intro c;rcases t.2 with⟨rfl,_⟩|⟨A,y,z,rfl,_,a,_⟩
 . cases c
 simp only[Value.ownBlock,jJ]at c;subst c;rw[b]at a;simp only[jJ,lQ]at a;exact r a.2.1
def bc0(m:MB):List J:=[m.cz,m.last,Z M 0 0]
theorem Mk(xs:List MI)(n:Nat)(h:1<=n)(m:MB)(d:m∈Lj xs n):∃e:Nat,m.last=(e:Int)/\e<n:=by
 rw[Cl]at d;unfold build at d;obtain⟨i,b⟩:=kq d;rw[mA]at b;cases h1:(lds xs n)[i]? with
 |none=>rw[h1]at b;simp at b
 | some a =>
   cases h2:((lds xs n).tail++[n])[i]? with
   |none=>rw[h1,h2]at b;simp at b
   | some q=>
     rw[h1,h2]at b;simp only[jJ]at b;subst b;have j:1<=q/\q<=n:=by
      rcases jL.1 (hC h2)with c|c
      . have f:=DG xs n;have g:=((Dk xs n q).1 (mq c)).1;cases hL:lds xs n with
        |nil=>rw[hL]at c;cases c
        | cons y r=>rw[hL]at f c;have:=(kY.1 f).1 q c;omega
      simp at c;omega
     exact⟨q-1,oS,oM⟩
theorem Dc{b:Y}{base:Nat}{row:Option Nat}(h:Ab w base e k s n xs)(f:w.grownBy b row)(i:∀g,s.ownBlock=K g->K g≠row):Ab b base e k s n xs:=by
 refine⟨h.1,?_⟩;rcases h.2 with h|⟨g,cap,c,rfl,d,a,j⟩
 . exact .inl h
 refine .inr ⟨g,cap,c,rfl,d,?_,j⟩;rw[f.block g (jS.1 a).1 (i g rfl)];exact a
def IK(x y:J×List MC):Prop:=∀g,x.1.ownBlock=K g->y.1.ownBlock≠K g
theorem IK.symm{x y:J×List MC}(h:IK x y):IK y x:= λg a e=>h g e a
structure Cv(w:Y)(base:Nat)(L:List (J×List MC)):Prop where
 own:∀x∈L,Ab w base 193 2 x.1 x.2 (x.2.flatMap MC.cells)
 sep:L.Pairwise IK
structure nL(base:Nat)(w w':Y):Prop where
 cq:Ah base w w'
 eP:∀(k:Nat) (cur:Array J) (t:Aj),w.heap[k]?=K (Obj.cells cur t (0,0))->t≠193->w'.heap[k]?=K (Obj.cells cur t (0,0))
theorem nL.hQ{base n:Nat}(d:Ab w base 193 2 s n xs)(a:w.grownBy f s.ownBlock)(m:base<= ↑w):nL base w f:=by
 refine⟨⟨a.os,a.tape,a.output,a.size, λk b=>a.block k oM (λe=>by have:=(d.lt k e.symm).1;omega)⟩, λk i t b g=> ?_⟩;rw[a.block k (jS.1 b).1 ?_]
 . exact b
 intro e;rcases d.2 with⟨rfl,_⟩|⟨l,h,j,rfl,_,c,_⟩
 . cases e
 simp only[Value.ownBlock,jJ]at e;subst e;rw[b]at c;simp only[jJ,lQ]at c;exact g c.2.1
theorem nL.own{base b:Nat}{d:Y}(h:nL base w d)(c:Ab w b e k s n xs)(j:e≠193):Ab d b e k s n xs:=by
 refine⟨c.1,?_⟩;rcases c.2 with i|⟨g,cap,a,f,l,m,p⟩
 . exact .inl i
 exact .inr ⟨g,cap,a,f,l,h.eP g a e m j,p⟩
theorem Cv.put{k:Y}{base:Nat}{A B:List (J×List MC)}{c c':List MC}(h:Cv w base (A++(v,c)::B))(q:c'.length= ↑c)(r:Ab k base 193 2 v c (Ad MC.cells c'))(m:w.grownBy k v.ownBlock):Cv k base (A++(v,c')::B):=by
 obtain⟨t,u,j⟩:=kv.1 h.sep;obtain⟨n,z⟩:=kY.1 u;refine⟨λx d=> ?_,kv.2 ⟨t,kY.2 ⟨λy s=>n y s,z⟩, λa l b f=> ?_⟩⟩
 . rcases jL.1 d with d|d
   . exact Dc (h.own x (jL.2 (.inl d))) m (λg i e=>j x d (v,c) sP g i e.symm)
   rcases jK.1 d with rfl|d
   . simp only[];rw[q];exact r
   exact Dc (h.own x (jL.2 (.inr (kh _ d)))) m (λg i e=>n x d g e.symm i)
 rcases jK.1 f with rfl|f
 . exact λg p=>j a l (v,c) sP g p
 exact j a l b (kh _ f)
def IM(p:MP)(f:MF):Prop:=∀k,k<f.aU.length->∀x,f.aU[k]?=K x->AW p f x
def DY(p:MP):Prop:=∀j,j<p.aB.length->∀f,p.aB[j]?=K f->IM p f
def AX(p:MP)(n:Int):Prop:=
 (n=1/\¬A7 p.az)\/(n=2/\A7 p.az/\¬BC p.b8)\/(n=3/\A7 p.az/\BC p.b8/\¬Bz p.aB)\/
 (n=4/\A7 p.az/\BC p.b8/\Bz p.aB/\¬DY p)\/(n=5/\A7 p.az/\BC p.b8/\Bz p.aB/\DY p/\¬CX p)\/
 (n=0/\A7 p.az/\BC p.b8/\Bz p.aB/\DY p/\CX p)
theorem AX.one{n m:Int}(h:AX p n)(a:AX p m):n=m:=by unfold AX at h a;by_cases b:A7 p.az<;>by_cases c:BC p.b8<;>by_cases d:Bz p.aB<;>by_cases e:DY p<;>by_cases f:CX p<;>simp[b,c,d,e,f]at h a<;>omega
structure OQ(w u:Y)(a b c d:J):Prop where
 cq:Ah w w u
 prog:Kr u w a b c d
theorem OQ.av{a b:J}(h:OQ w u a b c d)(e:Ah u u f):OQ w f a b c d:=⟨Ar h.cq lR e,h.prog.av e⟩
theorem OQ.of(w:Y)(a b c d:J)(t:Aj):OQ w (Ac w (Ak #[a,b,c,d] t)) a b c d:=⟨Al _ _,Kr.new _ _ _ _ _ _⟩
structure Pg(w:Y)(vr vk vf vt:J)(p:MP)(xs:List (List Int×J))(ys:List (MF×VF)):Prop where
 small:p.small
 wf:p.wf
 rd:ET w ⟨vr,vk,vf,vt⟩ p
 rr:Rd w 1 vr p.az (Ad Ia xs)
 rm:xs.map Prod.fst=p.az
 re:∀x∈xs,Rd w 1 x.2 x.1 (x.1.flatMap As)
 rl:xs.length= ↑p.az
 fr:Rd w 4 vf p.aB (Ad DF ys)
 fm:ys.map Prod.fst=p.aB
 fe:∀x∈ys,FH w x.2 x.1
 fl:ys.length= ↑p.aB
theorem Pg.of{v:VP}(e:p.small)(hw:p.wf)(h:ET w v p):∃xs ys,Pg w v.r v.k v.f v.t p xs ys:=by obtain⟨xs,a,c,d⟩:=h.az;obtain⟨ys,b,g,i⟩:=h.aB;exact⟨xs,ys,e,hw,h,c,a,d,by rw[<-a];simp,g,b,i,by rw[<-b];simp⟩
def qj(b:Bool):List J:=[b]
theorem pw{i g d q f c c':Nat}{b:Aj}(h:Ab u B e k (sG g n c) n xs)(l:Ab u i b q (sG d f c') f ys)(p:e≠b):¬g=d:= λj=>by subst j;obtain⟨_,r,m⟩:=AY h;obtain⟨_,s,a⟩:=AY l;rw[m]at a;simp only[jJ,lQ]at a;exact p a.2.1
theorem MJ{f g p d c:Nat}{b:Aj}(h:Ab u B e k s n xs)(j:Ab u f b p (sG g d c) d ys)(m:e≠b)(i:Nat)(z:J):Ab (Aa u ⟨g,i,M⟩ z) B e k s n xs:=by obtain⟨_,r,l⟩:=AY j;exact kK h (a:=⟨g,i,M⟩) (λq=>FF h l m _ q rfl) z
theorem pV(n:Nat):(madeCells (Value.bool false).cells (n*1)).toList=List.replicate n (Ao false):=by rw[DP qj [false] [] n false 1 rfl rfl oM];simp[CK,List.flatten_replicate_singleton]
theorem Mo(n:Nat)(f:Nat->List J)(ys:List Nat):(madeCells (Ag Af 0).cells (n*1)).toList=CK f [iZ 0] ys 0 n:=by rw[DP f [iZ 0] ys n (iZ 0) 1 rfl rfl oM]
def JE(x:J×List MC):List J:=[x.1]
theorem PH(x:J×List MC):(JE x).length=1:=rfl
theorem Ko(h:q:=by go_enter func48,ntmps48;go_wp2;go_ret;exact⟨rfl,rfl⟩):q:=h
theorem A8(n:Int)(c:Int)(w:Y):
 Ai Aq 48 #[n,c] w λe b=>e=Am (Ao (decide (0<=n/\n<c)))/\b=w:=by
 by_cases d:n<0
 . rw[kj (by omega:¬(0<=n/\n<c))]
   have a:¬0<=n:=oM;exact Ko
 have a:0<=n:=oM;by_cases f:n<c
 . rw[decide_eq_true (by omega:0<=n/\n<c)]
   exact Ko
 rw[kj (by omega:¬(0<=n/\n<c))]
 exact Ko
theorem Kp(h:q:=by go_wp2;all_goals(go_ret;refine⟨AM.of ?_,rfl⟩;go_light;simp_all [Cb])):q:=h
theorem F7(F t:Int)(w:Y)(a:F=5\/F=6\/F=7):Ai Aq 186 #[F,t] w λe b=>AM e (Cb F t)/\b=w:=by
 rcases a with rfl|rfl|rfl
 . go_enter func186,ntmps186;exact Kp
 . go_enter func186,ntmps186;exact Kp
 go_enter func186,ntmps186;go_wp2_with fail;refine(Ck t _).mono ?_;rintro e u ⟨rfl,rfl⟩;exact Kp
structure P7(w:Y)(b:Nat)(x0 x1 x2 x3 x4 x5 x6 x7:J):Prop where
 c0:w b=K x0
 c1:w ⟨b,1,M⟩=K x1
 c2:w ⟨b,2,M⟩=K x2
 c3:w ⟨b,3,M⟩=K x3
 c4:w ⟨b,4,M⟩=K x4
 c5:w ⟨b,5,M⟩=K x5
 c6:w ⟨b,6,M⟩=K x6
 c7:w ⟨b,7,M⟩=K x7
theorem P7.lt{a e f:J}(h:P7 w b a c d x3 e f g i):b<w.heap.size:=i7 h.c0
theorem P7.av{c:Y}{e f j k:J}(h:P7 w b d e f x3 g i j k)(a:Ah w w c):P7 c b d e f x3 g i j k:=⟨by rw[a.cell h.lt];exact h.c0,by rw[a.cell h.lt];exact h.c1,by rw[a.cell h.lt];exact h.c2,by rw[a.cell h.lt];exact h.c3,by rw[a.cell h.lt];exact h.c4,by rw[a.cell h.lt];exact h.c5,by rw[a.cell h.lt];exact h.c6,by rw[a.cell h.lt];exact h.c7⟩
theorem P7.new(w:Y)(a b c x3 d f g i:J)(ty:Aj):P7 (Ac w (Ak #[a,b,c,x3,d,f,g,i] ty)) w a b c x3 d f g i:=by have h:=nB (base:=w) (e:=ty) (size:=8) w #[a,b,c,x3,d,f,g,i] 1 lR oX sP;exact⟨h.cellAt 0 oM,h.cellAt 1 oM,h.cellAt 2 oM,h.cellAt 3 oM,h.cellAt 4 oM,h.cellAt 5 oM,h.cellAt 6 oM,h.cellAt 7 oM⟩
theorem P7.alloc{a e f:J}(h:P7 w b a c d x3 e f g i)(o:Obj):P7 (w.alloc o) b a c d x3 e f g i:=h.av (Al _ _)
def Jg(f:MF)(n:Int):Prop:=0<=n/\n<(f.aD:Int)+(f.a7:Int)
theorem GO(j k m x3:J)(g:VF)(f:MF)(n:Int)(w:Y)(d:f.small)(h:FH w g f):
 Ai Aq 183 #[An #[j,k,m,x3,g.p,f.cu,g.l,g.c],n] w λe i=>AM e (Jg f n)/\Ah w w i:=by
 obtain⟨q,c1,a⟩:=h.1.aP;obtain⟨r,c2,b⟩:=h.2.1.aP;obtain⟨v,vl,t⟩:=g;obtain⟨s1,s2,s⟩:=d;simp only[]at a b;subst a b;clear h;go_enter func183,ntmps183;go_wp2_with fail;refine(A8 n ((f.aD:Int)+(f.a7:Int)) _).mono ?_;rintro e u ⟨rfl,rfl⟩;go_wp2;go_ret;exact⟨.of (by unfold Jg;simp),Al _ _⟩
def Df(p:MP)(op a b:Int):Prop:=∃l,0<=a/\p.az[a.toNat]?=K l/\0<=b/\b<(l.length:Int)/\¬((op=5\/op=7)/\a=0)
theorem Km(h:q:=by go_enter func184,ntmps184;go_wp2_with fail;refine(A8 (i:Int) 3 _).mono ?_;rintro e u ⟨rfl,rfl⟩;rw[hit];go_wp2_with fail;go_quiet ((go_at_call 48;exact Calls.quiet_of_same (A8 b (l:Int) _)));go_wp2;go_ret;exact⟨.of HD,HB.trans (AL _ _ _)⟩):q:=h
theorem OK(h:q:=by go_enter func184,ntmps184;go_wp2_with fail;refine(A8 a 3 _).mono ?_;rintro e u ⟨rfl,rfl⟩;rw[hit];go_wp2;go_ret;exact⟨.no HN,HB⟩):q:=h
theorem OL(h:q:=by go_wp2_with fail;refine(A8 0 3 _).mono ?_;rintro e u ⟨rfl,rfl⟩;go_wp2;go_ret;exact⟨.no HN,HB⟩):q:=h
theorem Eu(v:VP)(p:MP)(R S T U:J)(op a b c:Int)(w:Y)(P:p.small)(j:p.az.length=3)(h:ET w v p):
 Ai Aq 184 #[An #[v.r,v.k,v.f,v.t,R,S,T,U],An #[op,a,b,c]] w λe w'=>AM e (Df p op a b)/\Ah w w w':=by
 obtain⟨vr,vk,vf,vt⟩:=v;obtain⟨xs,F,B,O⟩:=h.az;simp only[]at B;rw[j]at B;have Q:xs.length=3:=by rw[<-j,<-F];simp
 have m:=Aw (fd B (fd F (fd O (fd P.region (fd Q j)))));clear B F O Q P h j;have HB:Ae (Ah w w (Ac (Ac w (Ak #[vr,vk,vf,vt,R,S,T,U] 109)) (Ak #[op,a,b,c] 25))):=Ar (Al _ _) lR (Al _ _);by_cases H:0<=a/\a<3
 . obtain⟨i,rfl⟩:=jW H.1;have hi:i<3:=oM;obtain⟨⟨l,y⟩,C⟩:∃x,xs[i]?=K x:=⟨_,an (by rw[m.2.2.2.2.1];omega)⟩;have z:=Ga m.2.1 C;have G:=m.2.2.1 _ (hC C);have X:=m.2.2.2.1 _ (hC z);simp only[]at z G X;rcases m.1.2 with⟨e0,_⟩|⟨g,o,cc,V,N⟩
   . omega
   subst V;have a0:=Rd.elem DB N i _ C 0 _ rfl;rw[lJ,jV]at a0;simp only[]at a0;clear N C;have I:=Aw z;clear z;obtain⟨ay,cy,rfl⟩:=G.aP;clear G;have a1:=(HB.cell (i7 a0)).trans a0;have ga:¬g=w.heap.size:=lL (i7 a0);have q:Ae (Df p op (i:Int) b↔¬((op=5\/op=7)/\(i:Int)=0)/\0<=b/\b<(l:Int)):=by
    show _↔_;constructor
    . rintro⟨l',L,A,j,D,E⟩;rw[i9,I]at A;obtain rfl:=jM A;exact⟨E,j,D⟩
    rintro⟨E,j,D⟩;exact⟨l,oM,by rw[i9];exact I,j,D,E⟩
   by_cases d:(op=5\/op=7)/\(i:Int)=0
   . (have HN:Ae (¬Df p op (i:Int) b):= λe=>(q.1 e).1 d);obtain⟨d,q2⟩:=d;obtain rfl:i=0:=oM;rcases d with rfl|rfl
     . go_enter func184,ntmps184;exact OL
     go_enter func184,ntmps184;exact OL
   have s:((i:Int)==0)=decide (i=0):=by
    by_cases e:i=0
    . subst e;rfl
    rw[kj e];simpa using e
   have hit:decide (0<=(i:Int)/\(i:Int)<3)=true:=decide_eq_true oM
   have HD:Ae (decide (0<=b/\b<(l:Int))=true↔Df p op (i:Int) b):=by show _↔_;rw[q.o,lC];exact⟨λe=>⟨d,e⟩, λe=>e.2⟩
   by_cases n:op=5
   . subst n;(have W:((i:Int)==0)=false:=by (have:¬i=0:= λe=>d ⟨.inl rfl,oM⟩);rw[s,kj this]);clear d q s;exact Km
   by_cases w7:op=7
   . subst w7;(have W:((i:Int)==0)=false:=by (have:¬i=0:= λe=>d ⟨.inr rfl,oM⟩);rw[s,kj this]);clear d q s n;exact Km
   (have aa:(op==5)=false:=by simpa using n);(have ae:(op==7)=false:=by simpa using w7);clear d q s n w7;exact Km
 have HN:Ae (¬Df p op a b):= λ⟨l,L,A,_⟩=>H ⟨L,by have:=(f7.1 A).1;rw[m.2.2.2.2.2]at this;omega⟩
 have hit:decide (0<=a/\a<3)=false:=kj H
 clear m;by_cases n:op=5
 . subst n;exact OK
 have aa:(op==5)=false:=by simpa using n
 exact OK
def B4(op:Int):Int:=nS (CL op)[1]?
def CT(p:MP)(x:MI):Int:=match p.az[x.a.toNat]? with|some r=>(r[x.b.toNat]?).getD 0|none=>0
def Bj(f:MF):List Int:=if f.cu=0 then[]else[f.cu]
def AA(p:MP)(f:MF)(x:MI):List Int:=
 if x.op=3 then[AJ f x.a]else if x.op=5 then[CT p x]else if x.op=6 then[3]else if x.op=7 then[3,CT p x]
 else if(8<=x.op/\x.op<=15)\/x.op=20\/x.op=21 then[x.a,x.a]else if x.op=16\/x.op=22 then[x.a]
 else if x.op=17\/x.op=18 then[3,3]else if x.op=19 then[2]else if x.op=23\/x.op=24 then[0]else if x.op=26 then[1]
 else if x.op=28 then(match p.aB[x.a.toNat]? with|some g=>g.aD|none=>[])else[]
def El(x:MI):Nat:=if x.op=1\/x.op=2\/x.op=4\/x.op=6\/(8<=x.op/\x.op<=22)then 1 else if x.op=23 then 2 else 0
def C8(l:List MC)(i:Nat):MC:=(l[i]?).getD ⟨0,0⟩
def Bh(p:MP)(f:MF)(x:MI):List Int:=
 if x.op=1 then[(C8 p.b8 x.a.toNat).type]else if x.op=2 then[AJ f x.a]else if x.op=4\/x.op=6 then[CT p x]
 else if 8<=x.op/\x.op<=16 then[x.a]else if x.op=17\/x.op=18 then[3]else if x.op=19 then[2]else if x.op=20\/x.op=21 then[1]
 else if x.op=22 then[x.b]else if x.op=23 then[0,0]else if x.op=28 then(match p.aB[x.a.toNat]? with|some g=>Bj g|none=>[])else[]
theorem Np(p:MP)(f:MF)(x:MI)(h:x.op≠28):(Bh p f x).length=El x:=by
 unfold Bh El;repeat' split
 all_goals first|rfl|(exfalso;omega)
def Ce(p:MP)(f:MF)(x:MI):List Int:=if x.op=29 then Bj f else AA p f x
def DE(f:MF):List Int:=(f.aU.filter λx=>decide (x.op=28)).map MI.a
def Es(fs:List MF)(done:List Int)(i:Nat):Bool:= !done.contains (i:Int)&&match fs[i]? with|some f=>(DE f).all λa=>done.contains a|none=>false
def Gc(fs:List MF)(done:List Int):Option Nat:=(List.range fs).find? (Es fs done)
def Db(fs:List MF):Nat->List Int->List Int
 |0,done=>done
 |k+1,done=>match Gc fs done with|some i=>Db fs k (done++[(i:Int)])|none=>[]
def CV(fs:List MF):List Int:=Db fs fs []
theorem Hz{i:Nat}(e:i< ↑fs)(b:Es fs done i=true)(c:∀j,j<i->Es fs done j=false):Gc fs done=K i:=by
 unfold Gc;rw[List.find?_eq_some_iff_append];refine⟨b,(List.range i),(List.range' (i+1) (↑fs-i-1)),?_, λa d=> ?_⟩
 . rw[List.range_eq_range',List.range_eq_range',show ↑fs=i+(1+(↑fs-i-1))from oM,<-List.range'_append_1,<-List.range'_append_1]
   simp
 rw[c a (by simpa using d)];rfl
theorem Q7(h:∀j,j< ↑fs->Es fs done j=false):Gc fs done=M:=by unfold Gc;rw[List.find?_eq_none];intro a b;rw[h a (by simpa using b)];exact lF
theorem AX.ok(h:AX p 0):A7 p.az/\BC p.b8/\Bz p.aB/\DY p/\CX p:=by
 rcases h with h|h|h|h|h|h
 . exact absurd h.1 dC
 . exact absurd h.1 dC
 . exact absurd h.1 dC
 . exact absurd h.1 dC
 . exact absurd h.1 dC
 exact h.2
def CS(p:MP)(m:MM):Prop:=AX p 0/\∃a b c,p.az=[a,b,c]/\m.ins.length= ↑a/\Cz m.outs b/\Cz m.keeps c
theorem CS.iff{m:MM}(d:AX p 0){b c:List Int}(h:p.az=[a,b,c]):CS p m↔m.ins.length= ↑a/\Cz m.outs b/\Cz m.keeps c:=by
 constructor
 . rintro⟨_,f,s1,s2,e,k⟩;rw[h]at e;simp only[mK,mD]at e;obtain⟨rfl,rfl,rfl⟩:=e;exact k
 exact λk=>⟨d,a,b,c,h,k⟩
structure Wz(w:Y)(vr:J)(p:MP)(g o c:Nat)(r0 r1 r2:List Int)(y0 y1 y2:J):Prop where
 rows:vr=Z (K ⟨g,o,M⟩) 3 c
 eq:p.az=[r0,r1,r2]
 i0:w ⟨g,o,M⟩=K y0
 i1:w ⟨g,o+1,M⟩=K y1
 i2:w ⟨g,o+2,M⟩=K y2
 k0:Rd w 1 y0 r0 (Ad As r0)
 k1:Rd w 1 y1 r1 (Ad As r1)
 k2:Rd w 1 y2 r2 (Ad As r2)
theorem Wz.of{v:VP}(h:ET w v p)(q:p.az.length=3):∃g o c i j k d e f,Wz w v.r p g o c i j k d e f:=by
 obtain⟨xs,s,t,m⟩:=h.az;have u:xs.length=3:=by rw[<-q,<-s];simp
 obtain⟨⟨i,d⟩,⟨j,e⟩,⟨k,f⟩,rfl⟩:∃a b c,xs=[a,b,c]:=by
  match xs,u with
  |[a,b,c],_=>exact⟨a,b,c,rfl⟩
 rcases t.2 with⟨x,_⟩|⟨g,o,c,n,l⟩
 . omega
 rw[q]at n;exact⟨g,o,c,i,j,k,d,e,f,n,by rw[<-s];rfl,by simpa using l 0 d rfl,l 1 e rfl,l 2 f rfl,m (i,d) sP,m (j,e) sP,m (k,f) sP⟩
theorem BI{base b:Nat}(h:Ab w base e k v n xs)(d:b<=base):Ab w b e k v n xs:=⟨h.1,h.2.imp id λ⟨g,cap,a,c,f,r⟩=>⟨g,cap,a,c,jN d f,r⟩⟩
theorem Cm{Q:Exit->Act->Y->Prop}{a:Act}{U:Y}(P:Y->Prop)(h:P U)(k:∀u,P u->Q .normal a u):Q .normal a U:=k U h
theorem Az{W:Y}(b:Ah W W u){a:Addr}{x:J}(h:W a=K x):u a=K x:=by rw[b.cell (i7 h)];exact h
def MV(xs:List MI)(m:MB):MB:=⟨m.cz,m.last,Mt xs (xs.getD m.last.toNat ⟨0,0,0,0⟩) m.last.toNat⟩
def AQ(xs:List MI):List MB:=(Lj xs xs).map (MV xs)
theorem FC(U:Y)(z:Int):∀j u,[(iZ z:J)][j]?=K u->(Ac U (Ak #[z] 2)) ((⟨U,0,M⟩:Addr).add j)=K u:= λj u a=>by rw[Cx,kT,(Ay.new U #[z] 2).cell j];simpa using a
def Bm(F:List (MG×J)):List (J×List MC):=F.map λx=>(x.2,x.1.a7)
theorem Bn{base g k n:Nat}{c:Array J}{f:Nat×Nat}(h:Ab w base e k s n xs)(i:w.heap[g]?=K (Obj.cells c t f))(l:e≠t):∀j,s.ownBlock=K j->j≠g:=by
 intro j b d;subst d;rcases h.2 with⟨rfl,_⟩|⟨q,m,p,rfl,_,a,_⟩
 . cases b
 simp only[Value.ownBlock,jJ]at b;subst b;rw[i]at a;simp only[jJ,lQ]at a;exact l a.2.1.symm
theorem Cv.set{base g:Nat}{L:List (J×List MC)}(h:Cv w base L){c:Array J}{d:Nat×Nat}(f:w.heap[g]?=K (Obj.cells c t d))(j:193≠t)(i:Nat)(x:J):Cv (Aa w ⟨g,i,M⟩ x) base L:=⟨λy b=>kK (h.own y b) (a:=⟨g,i,M⟩) (λe=>Bn (h.own y b) f j g e rfl) x,h.sep⟩
theorem Dz{base g k n c:Nat}(h:Ab w base e k (Z g n c) n xs):base<=g/\∃a,w.heap[g]?=K (Obj.cells a e (0,0)):=by
 rcases h.2 with⟨b,_⟩|⟨j,i,a,b,d,f,_⟩
 . cases b
 cases b
 exact⟨d,a,f⟩
def CZ:List Int->List Int->Bool
 |[],[]=>true
 |s::ss,t::ts=>(t==0||s==t)&&CZ ss ts
 |_,_=>false
theorem N4{b:List Int}(h:CZ a b=true):a.length=b.length:=by
 induction a generalizing b with
 |nil=>cases b with|nil=>rfl|cons _ _=>simp[CZ]at h
 |cons v r c=>cases b with|nil=>simp[CZ]at h|cons t q=>simp only[CZ,ky]at h;simp[c h.2]
theorem N3{b:List Int}(e:a.length= ↑b):CZ a b=true↔∀(i:Nat) s t,a[i]?=K s->b[i]?=K t->t=0\/s=t:=by
 induction a generalizing b with
 | nil=>
   cases b with
   |nil=>simp[CZ]
   |cons _ _=>simp at e
 | cons v r j=>
   cases b with
   |nil=>simp at e
   | cons t q=>
     simp only[CZ,ky,Bool.or_eq_true,beq_iff_eq];rw[j (by simpa using e)];constructor
     . rintro⟨f,g⟩ i s u c d;cases i with
       |zero=>simp only[f8,jJ]at c d;subst c d;exact f
       |succ i=>simp only[i6]at c d;exact g i s u c d
     intro h;exact⟨h 0 v t rfl rfl, λi s u c d=>h (i+1) s u (by simpa using c) (by simpa using d)⟩
def GX(p:MP)(f:MF)(x:MI)(a:List Int):Nat:= ↑a-(AA p f x).length
def H8(p:MP)(f:MF)(x:MI)(a:List Int):List Int:=a.take (GX p f x a)++(Bh p f x).map λt=>if t=0 then(a[GX p f x a]?).getD 0 else t
def EL(p:MP)(f:MF)(x:MI)(b:List Int):Int:=
 if ↑b<(AA p f x).length then 1
 else if CZ (b.drop (GX p f x b)) (AA p f x)=false\/(x.op=27/\AJ f x.a≠3)then 2
 else if 64<(H8 p f x b).length then 3 else 0
def DC(a:List MC)(ts:List Int):Prop:=a.map MC.type=ts/\∀v∈a,CI v
structure YT(p:MP)(n:Nat)(g:MG):Prop where
 lo:0<=g.func
 a7:∃f,p.aB[g.func.toNat]?=K f/\DC g.a7 (f.aD++f.a7)
 base:g.base<=(n:Int)
def Cp:Int->List MG->Prop
 |_,[]=>True
 |b,g::r=>b<=g.base/\Cp g.base r
structure IP(p:MP)(s:MS):Prop where
 prog:AX p 0
 cost:0<=s.cost/\s.cost<=4611686018427387904
 steps:0<=s.steps/\s.steps<=4611686018427387904
 three:s.cells.length= ↑p.az
 cells:∀(i:Nat) c r,s.cells[i]?=K c->p.az[i]?=K r->DC c r
 fS:s.stack.length<=64
 stack:∀v∈s.stack,CI v
 ne0:s.dk≠[]
 deep:s.dk.length<=32
 dk:∀g∈s.dk,YT p s.stack g
 fW:Cp 0 s.dk
def Bw:List MC->List Int->Bool
 |[],[]=>true
 |v::vs,t::ts=>(t==0||v.type==t)&&Bw vs ts
 |_,_=>false
def Do(p:MP)(f:MF)(g:MG)(s:MS)(x:MI):Int:=
 let b:=s.stack.drop g.base.toNat
 let ts:=AA p f x
 if x.op=29 then(if b.map MC.type=Bj f then 0 else 6)
 else if b.length< ↑ts then 1
 else if Bw (b.drop (b.length-↑ts)) ts=false\/(x.op=27/\AJ f x.a≠3)then 2
 else if x.op=28 then(if s.dk.length<32 then 0 else 5)
 else if 64< ↑s.stack-↑ts+El x then 3 else 0
def CQ(fs:List MG)(h:MG->MG):List MG:=fs.modify (fs.length-1) h
def En(cs:List (List MC))(a b:Nat)(v:MC):List (List MC):=cs.modify a λr=>r.set b v
def cellAt(s:MS)(a b:Nat):MC:=C8 ((s.cells[a]?).getD []) b
def Eb(p:MP)(f:MF)(g:MG)(s:MS)(x:MI):MS:=
 let n:=(AA p f x).length
 let ar:=s.stack.drop (↑s.stack-n)
 let st:=s.stack.take (↑s.stack-n)
 let d:List MG:=CQ s.dk λh=>{h with at_:=g.at_+1}
 let t:MS:={s with stack:=st,dk:=d}
 let push:List MC->MS:= λe=>{t with stack:=st++e}
 if x.op=0\/x.op=24 then t
 else if x.op=1 then push [C8 p.b8 x.a.toNat]
 else if x.op=2 then push [C8 g.a7 x.a.toNat]
 else if x.op=3 then{t with dk:=CQ d λh=>{h with a7:=h.a7.set x.a.toNat (C8 ar 0)}}
 else if x.op=4 then push [cellAt s x.a.toNat x.b.toNat]
 else if x.op=5 then{t with cells:=En s.cells x.a.toNat x.b.toNat (C8 ar 0)}
 else if x.op=6 then push [cellAt s x.a.toNat (x.b.toNat+((C8 ar 0).word.toNat &&& x.c.toNat))]
 else if x.op=7 then{t with cells:=En s.cells x.a.toNat (x.b.toNat+((C8 ar 0).word.toNat &&& x.c.toNat)) (C8 ar 1)}
 else if x.op=16\/x.op=19 then push [⟨(C8 ar 0).type,Dy x.op (C8 ar 0).type (C8 ar 0).word 0⟩]
 else if x.op=20\/x.op=21 then push [⟨1,Dy x.op (C8 ar 0).type (C8 ar 0).word (C8 ar 1).word⟩]
 else if 8<=x.op/\x.op<=18 then push [⟨(C8 ar 0).type,Dy x.op (C8 ar 0).type (C8 ar 0).word (C8 ar 1).word⟩]
 else if x.op=22 then push [⟨x.b,Pc x.a x.b (C8 ar 0).word⟩]
 else if x.op=23 then push [C8 ar 0,C8 ar 0]
 else if x.op=25 then{t with dk:=CQ d λh=>{h with at_:=x.c}}
 else if x.op=26 then(if(C8 ar 0).word=0 then{t with dk:=CQ d λh=>{h with at_:=x.c}}else t)
 else if x.op=27 then(if(C8 g.a7 x.a.toNat).word=0 then{t with dk:=CQ d λh=>{h with at_:=x.c}}else{t with dk:=CQ d λh=>{h with a7:=h.a7.modify x.a.toNat λv=>{v with word:=v.word-1}}})
 else if x.op=28 then{t with dk:=d++[⟨x.a,0,(st:Int),ar++(match p.aB[x.a.toNat]? with|some c=>c.a7.map λty=>(⟨ty,0⟩:MC)|none=>[])⟩]}
 else{s with dk:=s.dk.dropLast,done:=decide (s.dk.length=1)}
inductive Bf (p:MP) (s:MS):MS->Prop
 |jump {g:MG} {f:MF}:s.dk.getLast?=K g->p.aB[g.func.toNat]?=K f->(g.at_<0\/(f.aU:Int)<=g.at_)->Bf p s {s with trap:=4}
 |trap {g:MG} {f:MF} {x:MI} {n:Int}:s.dk.getLast?=K g->p.aB[g.func.toNat]?=K f->0<=g.at_->f.aU[g.at_.toNat]?=K x->Do p f g s x=n->n≠0->Bf p s {s with trap:=n,steps:=s.steps+1,cost:=s.cost+B4 x.op}
 |does {g:MG} {f:MF} {x:MI}:s.dk.getLast?=K g->p.aB[g.func.toNat]?=K f->0<=g.at_->f.aU[g.at_.toNat]?=K x->Do p f g s x=0->Bf p s (Eb p f g {s with steps:=s.steps+1,cost:=s.cost+B4 x.op} x)
theorem Bf.one{s a b:MS}(h:Bf p s a)(c:Bf p s b):a=b:=by
 cases h with
 | jump e1 e2 e3=>
   cases c with
   |jump d1 d2 d3=>rfl
   | trap d1 d2 d3 d4 _ _=>rw[e1]at d1;obtain rfl:=jM d1;rw[e2]at d2;obtain rfl:=jM d2;have:=(f7.1 d4).1;omega
   | does d1 d2 d3 d4 _=>rw[e1]at d1;obtain rfl:=jM d1;rw[e2]at d2;obtain rfl:=jM d2;have:=(f7.1 d4).1;omega
 | trap e1 e2 e3 e4 e5 e6=>
   cases c with
   | jump d1 d2 d3=>rw[e1]at d1;obtain rfl:=jM d1;rw[e2]at d2;obtain rfl:=jM d2;have:=(f7.1 e4).1;omega
   | trap d1 d2 d3 d4 d5 d6=>rw[e1]at d1;obtain rfl:=jM d1;rw[e2]at d2;obtain rfl:=jM d2;rw[e4]at d4;obtain rfl:=jM d4;rw[<-e5,<-d5]
   | does d1 d2 d3 d4 d5=>rw[e1]at d1;obtain rfl:=jM d1;rw[e2]at d2;obtain rfl:=jM d2;rw[e4]at d4;obtain rfl:=jM d4;exact absurd (e5.symm.trans d5) e6
 | does e1 e2 e3 e4 e5=>
   cases c with
   | jump d1 d2 d3=>rw[e1]at d1;obtain rfl:=jM d1;rw[e2]at d2;obtain rfl:=jM d2;have:=(f7.1 e4).1;omega
   | trap d1 d2 d3 d4 d5 d6=>rw[e1]at d1;obtain rfl:=jM d1;rw[e2]at d2;obtain rfl:=jM d2;rw[e4]at d4;obtain rfl:=jM d4;exact absurd (d5.symm.trans e5) d6
   | does d1 d2 d3 d4 d5=>rw[e1]at d1;obtain rfl:=jM d1;rw[e2]at d2;obtain rfl:=jM d2;rw[e4]at d4;obtain rfl:=jM d4;rfl
structure ML where
 head:Int
 back:List Int
 aC:List Int
structure Ee where
 aU:Int
 at_:Int
 aC:List MB
 dr:List Int
 eU:List Int
 cv:List ML
def ints(l:List Nat):List Int:=l.map λ(x:Nat)=>(x:Int)
theorem A4(l:List Nat):(ints l).length=l.length:=by simp[ints]
def nx(a:List MB)(b:Nat):List Nat:=match a[b]? with|some m=>m.next.map Int.toNat|none=>[]
def JB(c a:Int):Ee:=⟨c,a,[],[],[],[]⟩
def BA(E:Nat->List Nat)(D L:Nat->Nat->Bool)(n j:Nat):List ML:=(List.range j).filterMap λh=>if AO E D n h=[]then M else K ⟨(h:Int),ints (AO E D n h),ints ((List.range n).filter (L h))⟩
inductive Bl (xs:List MI):Ee->Prop
 |none:¬Bb xs->Bl xs (JB 4 0)
 |off {x:MI}:Bb xs->xs[xs.length-1]?=K x->Ij x=true->Bl xs (JB 1 ((xs:Int)-1))
 |lost {x:MI} {S O:List Nat} {b:Nat} {m:MB}:Bb xs->xs[xs.length-1]?=K x->Ij x=false->Vs (nx (AQ xs)) [] [] [0] S O->b<(AQ xs).length->b∉S->(∀c,c<b->c∈S)->(AQ xs)[b]?=K m->Bl xs (JB 2 m.cz)
 |two {x:MI} {S O:List Nat} {D:Nat->Nat->Bool} {b k t:Nat} {m:MB}:Bb xs->xs[xs.length-1]?=K x->Ij x=false->Vs (nx (AQ xs)) [] [] [0] S O->(∀c,c<(AQ xs).length->c∈S)->(∀d b,D d b=true↔Ed (nx (AQ xs)) d b)->Gj (nx (AQ xs)) (AQ xs).length (PY O D) b k t->(AQ xs)[t]?=K m->Bl xs (JB 3 m.cz)
 |good {x:MI} {S O:List Nat} {D L:Nat->Nat->Bool} {I:Nat->Int}:Bb xs->xs[xs.length-1]?=K x->Ij x=false->Vs (nx (AQ xs)) [] [] [0] S O->(∀c,c<(AQ xs).length->c∈S)->(∀d b,D d b=true↔Ed (nx (AQ xs)) d b)->(∀b,b<(AQ xs).length->∀t∈nx (AQ xs) b,¬PY O D b t)->
  (∀b,b<(AQ xs).length->(b=0/\I b=-1)\/b≠0/\∃c:Nat,c<(AQ xs).length/\I b=(c:Int)/\Hk (nx (AQ xs)) b c)->(∀h y,L h y=true↔AU (nx (AQ xs)) D (AQ xs).length h y)->
  Bl xs ⟨0,0,AQ xs,ints O.reverse,(List.range (AQ xs).length).map I,BA (nx (AQ xs)) D L (AQ xs).length (AQ xs).length⟩
theorem GR{xs:List MI}(h:Bb xs):0<(AQ xs).length:=by unfold AQ;rw[kC,FV];exact mv.2 (Pt xs _ h.1)
theorem PC{xs:List MI}(l:Bb xs){e:Nat}{x:MI}(f:(Lj xs xs)[b]?=K m)(j:m.last=(e:Int))(d:xs[e]?=K x){p:Int}(a:p∈Bc xs x e):p.toNat∈lds xs xs:=by
 have k:e<xs.length:=(f7.1 d).1;rw[Cl]at f;unfold Bc at a;rcases jL.1 a with a|a
 . by_cases h:Ij x=true/\e+1< ↑xs
   . rw[jP h]at a;simp only[jK,jO,kM]at a;subst a;rw[i9];exact L3 _ _ _ _ _ f j h.2
   rw[jH h]at a;cases a
 by_cases h:Bv x=true/\¬(Ij x=true/\e+1< ↑xs/\x.c=((e+1:Nat):Int))
 . rw[jP h]at a;simp only[jK,jO,kM]at a;subst a;obtain⟨g,n⟩:=l.2.2 e x d h.1;have i:(x.c.toNat:Int)=x.c:=mZ g;exact(Dk _ _ _).2 ⟨oM,Mm xs _ e _ x k d (by simp[Hy,h.1,i])⟩
 rw[jH h]at a;cases a
theorem So{L:List Nat}(l:L.Pairwise (· < ·))(c:∀x∈L,x<n)(h:(build L n)[b]?=K m):∃e:Nat,m.last=(e:Int)/\e<n:=by
 unfold build at h;rw[mA]at h;cases h1:L[b]? with
 |none=>rw[h1]at h;simp at h
 | some a=>
   cases h2:(L.tail++[n])[b]? with
   |none=>rw[h1,h2]at h;simp at h
   | some q=>
     rw[h1,h2]at h;simp only[jJ]at h;subst h;have j:=c a (hC h1);have d:a<q/\q<=n:=by
      by_cases k:b< ↑L.tail
      . rw[kL k]at h2;have d:=mq (hC h2);refine⟨?_,mI (c q d)⟩;(have i:L[b+1]?=K q:=by rw[<-h2];cases L<;>simp);obtain⟨p,f⟩:=f7.1 h1;obtain⟨r,g⟩:=f7.1 i;rw[<-f,<-g];exact(lW.1 l) b (b+1) p r oM
      rw[jX oM]at h2;have:=hC h2;simp only[jK,jO,kM]at this;subst this;exact⟨j,Nat.le_refl _⟩
     exact⟨q-1,oS,oM⟩
theorem X6{xs:List MI}(h:(Lj xs xs)[b]?=K m):∃(e:Nat) (x:MI),m.last=(e:Int)/\xs[e]?=K x:=by rw[Cl]at h;obtain⟨e,a,c⟩:=So (DG _ _) (λx d=>((Dk _ _ _).1 d).1) h;exact⟨e,_,a,an c⟩
theorem Jc{xs:List MI}(f:Bb xs)(h:(AQ xs)[b]?=K m){z:Int}(g:z∈m.next):0<=z/\z<((AQ xs).length:Int):=by
 unfold AQ at h⊢;rw[jY]at h;obtain⟨i,a,rfl⟩:=lE.1 h;obtain⟨e,x,c,d⟩:=X6 a;have j:(MV xs i).next=Mt xs x e:=by unfold MV;rw[c,i9,jQ,d];rfl
 rw[j,Om xs b e x i f a c d]at g;obtain⟨p,k,rfl⟩:=kI.1 g;have:=mP.2 (PC f a c d k);rw[kC,FV];omega
theorem TW{a:List MB}(h:a[b]?=K m):nx a b=m.next.map Int.toNat:=by unfold nx;rw[h]
theorem TT{xs:List MI}(a:Bb xs)(h:(AQ xs)[b]?=K m):m.next=ints (nx (AQ xs) b):=by
 rw[TW h];unfold ints;rw[mJ];symm
 rw[mG (g:=id),List.map_id];intro z c;exact mZ (Jc a h c).1
theorem Mv{xs:List MI}(d:Bb xs):∀b,b<(AQ xs).length->∀x∈nx (AQ xs) b,x<(AQ xs).length:= λb a x c=>by rw[TW (an a)]at c;obtain⟨z,e,rfl⟩:=kI.1 c;have:=Jc d (an a) e;omega
theorem GE{xs:List MI}(b:Bb xs):(AQ xs).length<=1024:=by unfold AQ;rw[kC,FV];have:=mO (Cu xs xs) (List.range xs);have a:=b.2.1;simp only[mj]at this;exact jN this a
theorem Mw(a:List MB)(h:∀m∈a,m.next.length<=2)(b:Nat):(nx a b).length<=2:=by
 unfold nx;cases hb:a[b]? with
 |none=>simp
 |some m=>simpa using h m (hC hb)
theorem Il(xs:List MI):∀m∈AQ xs,m.next.length<=2:=by intro f a;unfold AQ at a;obtain⟨m,_,rfl⟩:=kI.1 a;simp only[MV,Mt];split<;>split<;>simp
theorem Bl.one{xs:List MI}{r n:Ee}(h:Bl xs r)(e:Bl xs n):r=n:=by
 have j:∀{E:Nat->List Nat} {D l:Nat->Nat->Bool},(∀d b,D d b=true↔Ed E d b)->(∀d b,l d b=true↔Ed E d b)->D=l:= λw x=>by
  funext d b
  rw[mi,w,x]
 cases h with
 | none g=>
   cases e with
   |none _=>rfl
   |_ a=>exact absurd a g
 | off g x1 o1=>
   cases e with
   |none a=>exact absurd g a
   |off _ _ _=>rfl
   | lost _ x2 o2|two _ x2 o2|good _ x2 o2=>rw[x1]at x2;(cases x2);rw[o1]at o2;cases o2
 | @lost _ _ _ b m g x1 o1 v1 b1 n1 l1 m1=>
   cases e with
   |none a=>exact absurd g a
   | off _ x2 o2=>rw[x1]at x2;(cases x2);rw[o1]at o2;cases o2
   | @lost _ _ _ b' m' _ x2 o2 v2 b2 n2 l2 m2=>
     obtain⟨rfl,rfl⟩:=v1.one v2;have:b=b':=by
      rcases Nat.lt_trichotomy b b' with q|q|q
      . exact absurd (l2 _ q) n1
      . exact q
      exact absurd (l1 _ q) n2
     subst this;rw[m1]at m2;(cases m2);rfl
   | two _ _ _ v2 s2|good _ _ _ v2 s2=>obtain⟨rfl,rfl⟩:=v1.one v2;exact absurd (s2 _ b1) n1
 | two g x1 o1 v1 s1 d1 f1 m1=>
   cases e with
   |none a=>exact absurd g a
   | off _ x2 o2=>rw[x1]at x2;(cases x2);rw[o1]at o2;cases o2
   | lost _ _ _ v2 b2 n2=>obtain⟨rfl,rfl⟩:=v1.one v2;exact absurd (s1 _ b2) n2
   | two _ _ _ v2 _ d2 f2 m2=>obtain⟨rfl,rfl⟩:=v1.one v2;obtain rfl:=j d1 d2;obtain rfl:=f1.one f2;rw[m1]at m2;(cases m2);rfl
   | good _ _ _ v2 _ d2 f2=>obtain⟨rfl,rfl⟩:=v1.one v2;obtain rfl:=j d1 d2;exact absurd f1.is (f2 _ f1.lt _ (hC f1.at_))
 | good g x1 o1 v1 s1 d1 f1 i1 l1=>
   cases e with
   |none a=>exact absurd g a
   | off _ x2 o2=>rw[x1]at x2;(cases x2);rw[o1]at o2;cases o2
   | lost _ _ _ v2 b2 n2=>obtain⟨rfl,rfl⟩:=v1.one v2;exact absurd (s1 _ b2) n2
   | two _ _ _ v2 _ d2 f2 m2=>obtain⟨rfl,rfl⟩:=v1.one v2;obtain rfl:=j d1 d2;exact absurd f2.is (f1 _ f2.lt _ (hC f2.at_))
   | good _ _ _ v2 _ d2 f2 i2 l2=>
     obtain⟨rfl,rfl⟩:=v1.one v2;obtain rfl:=j d1 d2;(have z:= λh y=>mi.2 ((l1 h y).trans (l2 h y).symm));(obtain rfl:=funext λh=>funext (z h));obtain⟨A,_⟩:=DR (GR g) (Mv g) v1 s1;(congr 1);apply mG;intro b f;have f:=k6.1 f;rcases i1 b f with⟨k,u⟩|⟨k,c,c1,c2,c3⟩
     . rcases i2 b f with⟨_,v⟩|⟨i,_⟩
       . rw[u,v]
       exact absurd k i
     rcases i2 b f with⟨i,_⟩|⟨i,c',p,s,t⟩
     . exact absurd i k
     rw[c2,s,c3.one A c1 p t]
structure AB(w:Y)(base:Nat)(v:VS)(C:List (J×List MC))(K:List MC)(F:List (MG×J)):Prop where
 cells:Ab w base 45 1 v.c C (Ad JE C)
 dk:Ab w base 132 4 v.f F (Ad BG F)
 eT:Cv w base (C++[(v.k,K)]++Bm F)
def A3(trap:Int)(done:Bool)(cost steps:Int)(C:List (J×List MC))(K:List MC)(F:List (MG×J)):MS:=⟨trap,done,cost,steps,C.map Prod.snd,K,F.map Prod.fst⟩
structure TD(C:List (J×List MC))(K:List MC)(F:List (MG×J)):Prop where
 cells:C.length<=1048576
 cell:∀x∈C,x.2.length<=1048576
 stack:K.length<=1048576
 dk:F.length<=1048576
 frame:∀x∈F,x.1.a7.length<=1048576
def A9(ts:List Int):List MC:=ts.map λt=>(⟨t,0⟩:MC)
theorem Gf(ts:List Int):(A9 ts).length=ts.length:=by simp[A9]
structure GJ(xs:List Int)(c:Int):Prop where
 low:0<=c
 fS:c<(xs:Int)
 gv:bits .and Af c (c+1)=0
 one:∀j:Nat,(j:Int)<=c->xs[j]?=xs[0]?
theorem IF(B:Option Addr)(c1:Nat)(xs:List Int)(c:Int)(w:Y)(N:xs.length<=1048576)(I: ↑xs<=c1)(h:Rd w 1 (Z B xs c1) xs (Ad As xs)):
 Ai Aq 185 #[Z B xs c1,c] w λe R=>AM e (GJ xs c)/\Ah w w R:=by
 have f:=Aw h;clear h;generalize D:xs.length=n at N I f;have l:=Aw D;clear D;by_cases d:0<=c/\c<(n:Int)
 . have b :decide (0<=c/\c<(n:Int))=true:=decide_eq_true d
   obtain⟨c,rfl⟩:=jW d.1;have T:c<n:=oM;clear d;by_cases q:bits .and Af (c:Int) ((c:Int)+1)=0
   . have HM:Ae (bits .and Af (c:Int) ((c:Int)+1)=0):=q;obtain⟨y,t⟩:∃y,xs[0]?=K y:=⟨_,an (by rw[l];omega)⟩;rcases f.2 with⟨S,_⟩|⟨g,o,cc,C,r⟩
     . omega
     simp only[i8,kW]at C;obtain⟨rfl,rfl⟩:=C;have O:=Rd.elem AE r 0 y t 0 _ rfl;simp only[Nat.zero_mul,jV]at O;have F:=Aw r;have A:=Aw t;clear r t;go_enter func185,ntmps185;go_wp2_with fail;refine(A8 (c:Int) (n:Int) _).mono ?_;rintro e u ⟨rfl,rfl⟩;rw[b];have P:(c:Int)+1<=(c1:Int):=oM;have Q:(0:Int)<=(c:Int)+1:=oM;have k3:(0:Int)<(n:Int):=oM;have k4:((c:Int)+1).toNat=c+1:=oM;go_wp2;clear P Q b q;go_loopw [24] (λi wr=>∃k:Nat,k<=c+1/\i=iZ k/\Ae (∀j,j<k->xs[j]?=K y)/\∃m,wr=u.drewN m) (λi _=>c+1-(intOf i).toNat)
     (case atStart=>exact⟨0,oM,rfl, λj E=>oM,0,rfl⟩);obtain⟨k,U,rfl,v,m,rfl⟩:=hrel;by_cases V:k<c+1
     . obtain⟨x,s⟩:∃x,xs[k]?=K x:=⟨_,an (by rw[l];omega)⟩;have i0:=Rd.elem AE F k x s 0 _ rfl;rw[lJ,jV]at i0;have z:=Aw s;clear s;have W:(k:Int)<(c:Int)+1:=oM;by_cases p:x=y
       . subst p;have G:Ae (∀j,j<k+1->xs[j]?=K x):= λj E=>by
          by_cases e:j=k
          . rw[e];exact z
          exact v.o j oM
         go_wp2;go_roundw;(case rel=>exact⟨k+1,oM,by go_num,G,_,rfl⟩);exact oI
       (have a:Ae (¬GJ xs c):= λe=>by have:=e.one k oM;rw[z,A]at this;exact p (jM this));(have X:(x==y)=false:=by simpa using p);(have aa:(x != y)=true:=by simpa using p);go_wp2;go_ret;exact⟨.no a,AL _ _ _⟩
     have L:k=c+1:=oM;subst L;have H:Ae (GJ xs c):=⟨oM,by rw[l];omega,HM, λj E=>by rw[A];exact v.o j oM⟩;go_wp2;go_ret;exact⟨.fk H,AL _ _ _⟩
   (have a:Ae (¬GJ xs c):= λe=>q e.gv);(have ae:(bits .and Af (c:Int) ((c:Int)+1)==0)=false:=by simpa using q);clear f;go_enter func185,ntmps185;go_wp2_with fail;refine(A8 (c:Int) (n:Int) _).mono ?_;rintro e u ⟨rfl,rfl⟩;rw[b];go_wp2;go_ret;exact⟨.no a,jZ _ _⟩
 have a:Ae (¬GJ xs c):= λe=>d ⟨e.low,by have:=e.fS;rw[l]at this;exact this⟩
 have b:decide (0<=c/\c<(n:Int))=false:=kj d
 clear f;go_enter func185,ntmps185;go_wp2_with fail;refine(A8 c (n:Int) _).mono ?_;rintro e u ⟨rfl,rfl⟩;rw[b];go_wp2;go_ret;exact⟨.no a,jZ _ _⟩
theorem QC(c:Nat)(w:Y):(binOp .eql 27 (Z M 0 c) (Z M 0 0)).run Aq w=.ok true w:=kR
theorem O6(ad:Addr)(m c:Nat)(w:Y):(binOp .eql 27 (Z (K ad) m c) (Z M 0 0)).run Aq w=.ok false w:=kR
theorem KH(s:J)(m:Nat)(xs:List J)(w:Y)(I:m<=1048576)(r:∀u∈xs,u.oneCell'=true)(h:Rd w 1 s m xs):
 Ai Aq 38 #[s] w λe d=>∃a c,e=Am (Z a m c)/\Ab d w 2 1 (Z a m c) m xs/\Ah w w d:=by
 obtain⟨i0,C,F,G,H⟩:=km Cy;have f:Ae (Ah w w (w.alloc (Ak #[] 2))):=Al _ _;have HO:Ae ((w.alloc (Ak #[] 2)).ownsRow w 2 1 (Z w 0 0) 0 []):=⟨rfl,.inr ⟨w,0,#[],rfl,Nat.le_refl _,lu _ _,Nat.le_refl _,ku _,rfl,sP⟩⟩;obtain⟨y,c1,rfl⟩:=h.aP;cases y with
 | none=>
   have E:m=0:=by
    rcases h.2 with⟨k,_⟩|⟨g,o,c,i,_⟩
    . exact k
    cases i
   subst E;have n:xs=[]:=jR (by have:=h.1;simpa using this);subst n;have x:Ae (w.ownsRow w 2 1 (Z M 0 0) 0 []):=kH _ _ _ _;(have A:∀w,_:= λw=>QC c1 w);clear h;go_enter func38,ntmps38;go_wp2;go_ret;exact⟨_,_,rfl,x,jZ _ _⟩
 | some ad=>
   have v:Ae (∀j u,xs[j]?=K u->(w.alloc (Ak #[] 2)) (ad.add j)=K u):= λj u b=>by
    rcases h.2 with⟨k,_⟩|⟨g,o,c,i,B⟩
    . have n:xs=[]:=jR (by have:=h.1;rw[k]at this;simpa using this);rw[n]at b;simp at b
    simp only[i8,jJ]at i;obtain⟨rfl,_,_⟩:=i;have:=B j u b;rw[Cx,f.cell (i7 this)];exact this
   have q:Ae (↑xs=m*1/\∀u∈xs,u.oneCell'=true):=⟨h.1,r⟩
   (have A:∀w,_:= λw=>O6 ad m c1 w);clear h r;go_enter func38,ntmps38;go_wp2_with (at_builtin;refine wpList_append_own _ rfl _ _ 27 rfl w 2 i0 (Ag Af 0) 1 8 underlying27 C F G H rfl dC _ 0 [] rfl HO ad m c1 xs rfl ?c1 ?c2 ?c3 ?c4 ?c5 ?c6 ?_);(case c1=>exact q.1);(case c2=>exact v);(case c3=>exact q.2);(case c4=>unfold maxLen;omega);(case c5=>omega);(case c6=>exact f.size);intro v' d l t D;(obtain⟨z,c2,rfl⟩:∃a c,v'=Z a m c:=by have:=(Rd.eS l).aP;simpa using this);have p:Ae (Ab d w 2 1 (Z z m c2) m xs/\Ah w w d):=⟨by simpa using l,f.grown t f.size (λj b=>(HO.lt j b).1)⟩
   clear l t D;go_wp2;go_ret;exact⟨_,_,rfl,p.1,p.2⟩
theorem Xq(s t:Int)(w:Y):Ai Aq 254 #[s,t] w λe g=>AM e (t=0\/s=t)/\Ah w w g:=by
 by_cases ht:t=0
 . (have f:(t==0)=true:=by simpa using ht);have c:Ae (t=0):=ht;clear ht;go_enter func254,ntmps254;go_wp2;go_ret;exact⟨.fk (.inl c),jZ _ _⟩
 have f:(t==0)=false:=by simpa using ht
 have c:Ae (¬t=0):=ht;clear ht;by_cases a:s=t
 . (have d:(s==t)=true:=by simpa using a);have b:Ae (s=t):=a;clear a;go_enter func254,ntmps254;go_wp2;go_ret;exact⟨.fk (.inr b),jZ _ _⟩
 have d:(s==t)=false:=by simpa using a
 have b:Ae (¬s=t):=a;clear a;go_enter func254,ntmps254;go_wp2;go_ret;exact⟨.no (λe=>e.elim c b),jZ _ _⟩
theorem Xo{b:List Int}{s t:Int}(c:a[k]?=K s)(d:b[k]?=K t)(h:¬(t=0\/s=t)):¬CZ a b=true:= λe=>h ((N3 (N4 e)).1 e k s t c d)
theorem L5(s s':J)(a ts:List Int)(w:Y)(V:a.length<=1048576)(W:ts.length<=1048576)(h:Rd w 1 s a (Ad As a))(r:Rd w 1 s' ts (Ad As ts)):
 Ai Aq 253 #[s,s',.func (.func 254) #[] #[]] w λe w'=>AM e (CZ a ts=true)/\Ah w w w':=by
 have C:Ae (Rd w 1 s a (Ad As a)):=h;have p:Ae (Rd w 1 s' ts (Ad As ts)):=r;obtain⟨a1,c1,rfl⟩:=h.aP;obtain⟨a2,c2,rfl⟩:=r.aP;clear h r;by_cases g:a.length= ↑ts
 . rw [<-g]at p⊢;clear W;generalize H:a.length=n at V C p g;have f:Ae (↑a=n/\ ↑ts=n):=⟨H,g.symm⟩
   clear H g;go_enter func253,ntmps253;go_wp2;go_loopw [17] (λi wr=>∃k:Nat,k<=n/\i=Ag Af k/\Ae (∀(j:Nat),j<k->∀v,a[j]?=K v->∀t,ts[j]?=K t->t=0\/v=t)/\Ae (Ah w w wr)) (λi _=>n-(intOf i).toNat)
   (case atStart=>exact⟨0,oM,rfl, λj X=>oM,jZ _ _⟩);obtain⟨k,hk,rfl,E,d⟩:=hrel;by_cases O:k<n
   . obtain⟨x,A⟩:∃x,a[k]?=K x:=⟨_,an (by rw[f.1];exact O)⟩;obtain⟨t,ht⟩:∃x,ts[k]?=K x:=⟨_,an (by rw[f.2];exact O)⟩;rcases C.2 with⟨U,_⟩|⟨b,o,c,F,L⟩
     . omega
     rcases p.2 with⟨U,_⟩|⟨b',o',c',G,N⟩
     . omega
     simp only[i8,kW]at F G;obtain⟨rfl,rfl⟩:=F;obtain⟨rfl,rfl⟩:=G;have i0:=Rd.elem AE L k _ A 0 _ rfl;have B:=Rd.elem AE N k _ ht 0 _ rfl;rw[<-d.cell (i7 i0),lJ,jV]at i0;rw[<-d.cell (i7 B),lJ,jV]at B;have l:Ae (a[k]?=K x/\ts[k]?=K t):=⟨A,ht⟩
     clear L N A ht;go_wp2_with fail;refine(Xq x t _).mono ?_;rintro e u ⟨⟨T,rfl,m⟩,I⟩;have D:Ae (Ah w w u):=Ar d lR I;clear I d i0 B;cases T
     . have q:Ae (¬CZ a ts=true):=Xo l.1 l.2 (λe=>absurd (m.2 e) lF);clear m;go_wp2;go_ret;exact⟨.no q,D⟩
     have Q:Ae (t=0\/x=t):=m.1 rfl
     clear m;have R:Ae (∀(j:Nat),j<k+1->∀v,a[j]?=K v->∀t,ts[j]?=K t->t=0\/v=t):= λj X v z t' y=>by
      by_cases e:j=k
      . subst e;rw[l.1]at z;rw[l.2]at y;obtain rfl:=jM z;obtain rfl:=jM y;exact Q
      exact E.o j oM v z t' y
     go_wp2;go_roundw;(case rel=>exact⟨k+1,oM,by go_num,R,D⟩);exact oI
   have aa:n=k:=oM;subst aa;have S:Ae (CZ a ts=true):=(N3 (by rw[f.1,f.2])).2 (λi s t P ht=>E.o i (by have:=(f7.1 P).1;rw[f.1]at this;exact this) s P t ht);go_wp2;go_ret;exact⟨.fk S,d⟩
 have q:Ae (¬CZ a ts=true):= λe=>g (N4 e)
 have ae:¬(a:Int)=(ts:Int):=oM;go_enter func253,ntmps253;go_wp2;go_ret;exact⟨.no q,jZ _ _⟩
end Go.Proofs.YtkgohaigebcgoaaGreatDoor
