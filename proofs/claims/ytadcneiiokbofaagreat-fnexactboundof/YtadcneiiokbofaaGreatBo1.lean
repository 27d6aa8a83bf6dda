import Derived.Test.YtadcneiiokbofaaGreatBo0
import Derived.Lib.SmallJoins
import Derived.Deep.Slices
import Derived.Deep.Cut
import Derived.Deep.CutRange
import Derived.Deep.RegionHeld
import Derived.StillTail
namespace Go.Proofs.YtadcneiiokbofaaGreat
open Go.ChangeShapes Go.WideShapes Go.ChangeAt Go.RowKit Go.Proofs.Tryz
set_option linter.unusedVariables false
open Go.Value renaming slice → Z,int → Ag,agg → Am,bool → An
open Go renaming Value → J,World → Y,Calls → Ai,TypeId → Aj
open Go.RowKit renaming Hid → Ae,Below → Ah
open Go.IntKind renaming i64 → Af
open Go.Obj renaming cells → Ak
open Go.Ending renaming returned → Al
open Go.Proofs.Tryz renaming prog → Ap
open Go.World renaming ownsRow → Ab,alloc → Ac,setCell → Aa
open Option renaming some → K,none → M
open List renaming flatMap → Ad
set_option maxHeartbeats 4000000
set_option maxRecDepth 100000
variable {b k i lo g f base B id:Nat}{α:Type}{t e:Aj}{a:Act}{y s v:J}{xs:List J}{c:Array J}{q:Prop}{d:Array Bool}{rs:List Nat}{R:Nat->Prop}{fr:Nat×Nat}
structure MP.fits(p:MP):Prop where
 aC:p.aC.length<=9223372036854775807
 region:∀r∈p.aC,r.length<=9223372036854775807
 dk:p.dk.length<=9223372036854775807
 aD:p.aD.length<=9223372036854775807
 func:∀f∈p.aD,f.fits
 e8:p.e8.length<=9223372036854775807
theorem N9{left:Int}{n:Nat}(a:0<=left)(b:left<=1048576):KM left n=-1\/0<=KM left n/\KM left n<=left/\(n:Int)<=left:=by
 unfold KM;by_cases h:left-n<0
 . rw[lZ h];exact .inl rfl
 rw[lS h];exact .inr ⟨oM,oM,oM⟩
structure Xt(w u:Y)(tp:Aj)(p:List J):Prop where
 par:Ab u w tp 4 (Z w 1 1) 1 p
 ej:Ah w w u
theorem Xt.of(w:Y)(a:Aj)(p:Array J)(b:p.size=4):Xt w (Ac w (Ak p a)) a p.toList:=⟨nT (base:=w) (e:=a) (size:=4) w p 1 lR oX oM,(lu _ _).alloc lR _⟩
theorem Xt.a7{w u c:Y}{b:Aj}{p:List J}(h:Xt w u b p)(a:Ah u u c):Xt w c b p:=⟨Aw h.par a lR,h.ej.trans (a.mono h.ej.size)⟩
theorem Nk(v:VP)(p:MP)(left:Int)(w:Y)(g:p.fits)(h:Dm w v p)(N:0<=left)(O:left<=1048576):
 Ai Ap 4 #[Am #[v.r,v.k,v.f,v.t],Ag Af left] w λe T=>∃r:Int,e=Al r/\(r=-1\/0<=r/\r<=left/\p.small)/\Ah w w T:=by
 obtain⟨j,c2,q⟩:=h.dk.bW;obtain⟨l,c4,s⟩:=h.e8.bW;obtain⟨H,vk,G,vt⟩:=v;simp only[]at q s;subst q;subst s;have a:=Xt.of w 27 #[H,Z j p.dk c2,G,Z l p.e8 c4] rfl;have b:Ae p.fits:=g;clear g;go_enter func4,ntmps4;go_wp2_with fail;refine(Nj H p.aC left _ b.aC b.region (h.aC.a7 a.ej lR) N O).mono ?_;rintro e u1 ⟨A,rfl,i,rfl⟩;rcases i with rfl|⟨B,U,V,C⟩
 . go_wp2;go_ret;exact⟨-1,rfl,.inl rfl,a.ej⟩
 have I:Ae (∀f∈p.aC,(f:Int)<=left):=C;clear C;obtain⟨u,x,y,z,_⟩:=DR a.par;go_wp2_with fail;refine(Pe j p.dk c2 A _ b.dk B oM).mono ?_;rintro e u2 ⟨rfl,rfl⟩;have c:=N9 (n:=p.dk) B oM;generalize KM A p.dk=P at c;rcases c with rfl|⟨Q,W,X⟩
 . go_wp2;go_ret;exact⟨-1,rfl,.inl rfl,a.ej⟩
 go_wp2_with fail;refine(QU G p.aD P _ b.aD b.func (h.aD.a7 a.ej lR) Q oM).mono ?_;rintro e u3 ⟨D,rfl,i,m⟩;have d:=a.a7 m;clear m u x y z;rcases i with rfl|⟨E,ae,ah,F⟩
 . go_wp2;go_ret;exact⟨-1,rfl,.inl rfl,d.ej⟩
 have L:Ae (∀f∈p.aD,f.small):=F;clear F;obtain⟨u,x,y,z,_⟩:=DR d.par;go_wp2_with fail;refine(QT l p.e8 c4 D _ b.e8 E oM).mono ?_;rintro e u4 ⟨rfl,rfl⟩;have c:=N9 (n:=p.e8) E oM;generalize KM D p.e8=R at c;rcases c with rfl|⟨S,aj,am⟩
 . go_wp2;go_ret;exact⟨-1,rfl,.inl rfl,d.ej⟩
 go_wp2;go_ret;refine⟨R,rfl,.inr ⟨S,oM,⟨oM, λf g=> ?_,oM,oM,L,oM⟩⟩,d.ej⟩;have:=I.o f g;omega
section
variable {H:Type} {enc:Aj×J->H} {P:Program} {w:Y} {spare:Nat->Bool} {held:Bool}
theorem CQ(b a:Nat)(i:Nat):(⟨b,a,M⟩:Addr).add i=⟨b,a+i,M⟩:=by unfold Addr.add;split<;>simp_all
theorem Fq[Inhabited α](f:α->List J)(G:α->Prop)(m:Nat)(g:∀y,(f y).length=m)(d:0<m)(W:P.underlying t=K (.slice e))(U:P.cellsOf e=m)
 (O:∀l c x,DataW.trod enc P w 0 spare held l e c=K x->∃y,c=f y/\G y) {l:Nat} {c:List J} {x:DataW H×List MemPlace} (h:DataW.trod enc P w 0 spare held l t c=K x):
 ∃(s:J) (k:List α),c=[s]/\Rd w m s k (Ad f k)/\ ↑k<=maxLen/\∀y∈k,G y:=by
 rcases DataW.trod_slice W h with⟨rfl,_⟩|⟨a,len,cap,ao,rest,n,_,rfl,_,_,hl,au,aq,A,_,_⟩
 . exact⟨_,[],rfl,⟨sP,.inl ⟨rfl,_,_,rfl⟩⟩,sP, λy r=>by cases r⟩
 rw[U]at A;have r:∀i,i<len->∃y,w.cells? 0 (a.add (i*m)) m=K (f y)/\G y:=by intro i q;have z:=A i q;rw[an oM]at z;obtain⟨am,N,X⟩:=Option.bind_eq_some_iff.1 z;obtain⟨y,rfl,R⟩:=O _ _ _ X;exact⟨y,N,R⟩
 obtain⟨F,p⟩:=Go.Deep.choose_lt r;refine⟨_,(List.range len).map F,rfl,⟨?_,?_⟩,oT,?_⟩
 . rw[AE f m g]
 . by_cases hz:len=0
   . subst hz;exact .inl ⟨sP,_,_,rfl⟩
   obtain⟨b,ah,aj⟩:=a;have C:=(World.cells?_some (p 0 oM).1).2.2 0 d;(have Q:0<(f (F 0)).length:=by rw[g];exact d);rw[an Q]at C;(have V:aj=M:=by simpa[Addr.add]using World.cell?_spot C);subst V;refine .inr ⟨b,ah,cap,sP, λj u E=> ?_⟩;(have S:j<len*m:=by have:=(i8.1 E).1;rw[AE f m g]at this;simpa using this);have I:j / m<len:=(Nat.div_lt_iff_lt_mul d).2 S;have L:=Nat.mod_lt j d;(have v:j=j / m*m+j % m:=by rw[Nat.mul_comm];exact(Nat.div_add_mod j m).symm);(have T:((List.range len).map F)[j / m]?=K (F (j / m)):=by simp[I]);have D:=(World.cells?_some (p (j / m) I).1).2.2 (j % m) L;have B:=BU f m g _ (j / m) (j % m) _ T L;rw[<-v,E]at B;rw[CQ,CQ,Nat.add_assoc,<-v]at D;rw[D,<-B]
 intro y ae;obtain⟨i,q,rfl⟩:=mG.1 ae;exact(p i (nE.1 q)).2
end
instance:Inhabited MI:=⟨⟨0,0,0,0⟩⟩
instance:Inhabited MC:=⟨⟨0,0⟩⟩
instance:Inhabited MT:=⟨⟨0,0,0,0⟩⟩
instance:Inhabited MF:=⟨⟨[],0,[],[]⟩⟩
instance:Inhabited VF:=⟨⟨true,true,true⟩⟩
def Dv(z:Int):Prop:=(Lit.int Af z).wf=true
def X3(z:Int):Prop:=(Lit.int .u32 z).wf=true
def MI.wf(x:MI):Prop:=Dv x.op/\Dv x.a/\Dv x.b/\Dv x.c
def MC.wf(x:MC):Prop:=Dv x.type/\X3 x.word
def MT.wf(x:MT):Prop:=Dv x.func/\Dv x.head/\Dv x.hQ/\X3 x.init
structure MF.wf(f:MF):Prop where
 gU:∀z∈f.gU,Dv z
 gV:Dv f.gV
 gW:∀z∈f.gW,Dv z
 bO:∀x∈f.bO,x.wf
structure MP.wf(p:MP):Prop where
 aC:∀r∈p.aC,∀z∈r,Dv z
 dk:∀x∈p.dk,x.wf
 aD:∀f∈p.aD,f.wf
 e8:∀x∈p.e8,x.wf
theorem Js:Tryz.prog.cellsOf 2=1:=kR
theorem SZ:Tryz.prog.cellsOf 94=1:=kR
theorem PT:Tryz.prog.cellsOf 29=1:=kR
theorem TL:Tryz.prog.cellsOf 22=1:=kR
theorem S5:Tryz.prog.cellsOf 183=4:=kR
theorem S3:Tryz.prog.cellsOf 104=2:=kR
theorem S6:Tryz.prog.cellsOf 107=4:=kR
theorem S4:Tryz.prog.cellsOf 70=4:=kR
theorem Wx:Tryz.prog.cellsOf 27=4:=kR
theorem WC:Tryz.prog.cellsOf 68=1:=kR
theorem Wz:Tryz.prog.cellsOf 23=1:=kR
theorem WE:Tryz.prog.cellsOf 25=1:=kR
theorem WA:Tryz.prog.cellsOf 24=1:=kR
section
variable {H:Type} {enc:Aj×J->H} {w:Y} {spare:Nat->Bool} {held:Bool} {fuel:Nat} {cs:List J} {x:DataW H×List MemPlace}
theorem WJ{cs:List J}(h:cs.length=4):∃a b c d,cs=[a,b,c,d]:=by
 match cs,h with
 |[a,b,c,d],_=>exact⟨a,b,c,d,rfl⟩
theorem two{cs:List J}(h:cs.length=2):∃a b,cs=[a,b]:=by
 match cs,h with
 |[a,b],_=>exact⟨a,b,rfl⟩
theorem Ds(h:DataW.trod enc Ap w 0 spare held fuel 2 cs=K x):∃z,cs=As z/\Dv z:=by obtain⟨n,a,_,b⟩:=DataW.trod_int underlying2 h;exact⟨n,a,b⟩
theorem Qx(h:DataW.trod enc Ap w 0 spare held fuel 94 cs=K x):∃z,cs=[.int .u32 z]/\X3 z:=by obtain⟨n,a,_,b⟩:=DataW.trod_int underlying94 h;exact⟨n,a,b⟩
theorem Ss(h:DataW.trod enc Ap w 0 spare held fuel 183 cs=K x):∃y:MI,cs=y.cells/\y.wf:=by obtain⟨A,B,C,D,n,_,p,j,k,l,m⟩:=Go.Joins.trod_struct4 underlying183 h;rw[S5]at p;obtain⟨a,b,c,d,rfl⟩:=WJ p;simp only[Js,List.drop_zero,List.drop_succ_cons,List.take_succ_cons,List.take_zero]at j k l m;obtain⟨u,e,q⟩:=Ds j;obtain⟨v,f,r⟩:=Ds k;obtain⟨z,g,s⟩:=Ds l;obtain⟨z3,i,t⟩:=Ds m;simp only[As,oN,nU]at e f g i;subst e f g i;exact⟨⟨u,v,z,z3⟩,rfl,q,r,s,t⟩
theorem Uc(h:DataW.trod enc Ap w 0 spare held fuel 107 cs=K x):∃y:MT,cs=y.cells/\y.wf:=by obtain⟨A,B,C,D,n,_,p,j,k,l,m⟩:=Go.Joins.trod_struct4 underlying107 h;rw[S6]at p;obtain⟨a,b,c,d,rfl⟩:=WJ p;simp only[Js,SZ,List.drop_zero,List.drop_succ_cons,List.take_succ_cons,List.take_zero]at j k l m;obtain⟨u,e,q⟩:=Ds j;obtain⟨v,f,r⟩:=Ds k;obtain⟨z,g,s⟩:=Ds l;obtain⟨z3,i,t⟩:=Qx m;simp only[As,oN,nU]at e f g i;subst e f g i;exact⟨⟨u,v,z,z3⟩,rfl,q,r,s,t⟩
theorem Sr(h:DataW.trod enc Ap w 0 spare held fuel 104 cs=K x):∃y:MC,cs=y.cells/\y.wf:=by obtain⟨m,p,n,_,g,e,f⟩:=trod_struct2 underlying104 h;rw[S3]at g;obtain⟨a,b,rfl⟩:=two g;simp only[Js,SZ,List.drop_zero,List.drop_succ_cons,List.take_succ_cons,List.take_zero]at e f;obtain⟨k,c,i⟩:=Ds e;obtain⟨l,d,j⟩:=Qx f;simp only[As,oN,nU]at c d;subst c d;exact⟨⟨k,l⟩,rfl,i,j⟩
theorem Ia(h:DataW.trod enc Ap w 0 spare held fuel 29 cs=K x):∃y:List Int×J,cs=BH y/\Rd w 1 y.2 y.1 (Ad As y.1)/\ ↑y.1<=maxLen/\∀z∈y.1,Dv z:=by obtain⟨s,d,e,a,b,c⟩:=Fq As Dv 1 Ay oM underlying29 Js (λ_ _ _=>Ds) h;exact⟨(d,s),e,a,b,c⟩
theorem Ud(h:DataW.trod enc Ap w 0 spare held fuel 70 cs=K x):∃y:MF×VF,cs=BR y/\DF w y.2 y.1/\y.1.fits/\y.1.wf:=by obtain⟨N,O,P,Q,n,_,p,j,k,l,m⟩:=Go.Joins.trod_struct4 underlying70 h;rw[S4]at p;obtain⟨a,b,c,d,rfl⟩:=WJ p;simp only[Js,PT,WC,List.drop_zero,List.drop_succ_cons,List.take_succ_cons,List.take_zero]at j k l m;obtain⟨⟨z,H⟩,e,C,q,t⟩:=Ia j;obtain⟨G,f,D⟩:=Ds k;obtain⟨⟨A,I⟩,g,E,r,u⟩:=Ia l;obtain⟨L,B,i,F,s,v⟩:=Fq MI.cells MI.wf 4 MI.dr oM underlying68 S5 (λ_ _ _=>Ss) m;simp only[As,BH,oN,nU]at e f g i;subst e f g i;exact⟨(⟨z,G,A,B⟩,⟨a,c,d⟩),rfl,⟨C,E,F⟩,⟨by simp[maxLen]at q;exact q,by simp[maxLen]at r;exact r,by simp[maxLen]at s;exact s⟩,⟨t,D,u,v⟩⟩
theorem O6(h:DataW.trod enc Ap w 0 spare held fuel 27 cs=K x):∃(p:MP) (v:VP),cs=[v.r,v.k,v.f,v.t]/\Dm w v p/\p.fits/\p.wf:=by
 obtain⟨y0,y1,y2,y3,n,_,E,A,B,C,D⟩:=Go.Joins.trod_struct4 underlying27 h;rw[Wx]at E;obtain⟨a,b,c,d,rfl⟩:=WJ E;simp only[TL,Wz,WA,WE,List.drop_zero,List.drop_succ_cons,List.take_succ_cons,List.take_zero]at A B C D;obtain⟨W,F,m,S,O,j⟩:=Fq BH (λy=>Rd w 1 y.2 y.1 (Ad As y.1)/\ ↑y.1<=maxLen/\∀z∈y.1,Dv z) 1 A5 oM underlying22 PT (λ_ _ _=>Ia) A
 obtain⟨X,L,q,T,P,H⟩:=Fq MC.cells MC.wf 2 MC.dr oM underlying23 S3 (λ_ _ _=>Sr) B;obtain⟨s2,G,s,U,Q,l⟩:=Fq BR (λy=>DF w y.2 y.1/\y.1.fits/\y.1.wf) 4 Az oM underlying24 S4 (λ_ _ _=>Ud) C
 obtain⟨s3,N,u,V,R,I⟩:=Fq MT.cells MT.wf 4 MT.dr oM underlying25 S6 (λ_ _ _=>Uc) D;simp only[oN,nU]at m q s u;subst m q s u;have i:∀n:Nat,n<=maxLen->n<=9223372036854775807:= λn h=>by simp[maxLen]at h;exact h
 refine⟨⟨F.map Prod.fst,L,G.map Prod.fst,N⟩,⟨a,b,c,d⟩,rfl,⟨⟨F,rfl,by simpa using S, λy e=>(j y e).1⟩,T,⟨G,rfl,by simpa using U, λy e=>(l y e).1⟩,V⟩,⟨by simpa using i _ O,?_,i _ P,by simpa using i _ Q,?_,i _ R⟩,⟨?_,H,?_,I⟩⟩
 . intro r g;obtain⟨y,e,rfl⟩:=mG.1 g;exact i _ (j y e).2.1
 . intro r g;obtain⟨y,e,rfl⟩:=mG.1 g;exact(l y e).2.1
 . intro r g;obtain⟨y,e,rfl⟩:=mG.1 g;exact(j y e).2.2
 intro r g;obtain⟨y,e,rfl⟩:=mG.1 g;exact(l y e).2.2
end
def DT(x y:J):Prop:=x=y\/∃k a b,x=Ag k a/\y=Ag k b
theorem DT.refl(x:J):DT x x:=.inl rfl
theorem DT.trans{x y z:J}(h:DT x y)(c:DT y z):DT x z:=by
 rcases h with rfl|⟨k,a,b,rfl,rfl⟩
 . exact c
 rcases c with rfl|⟨f,a',d,e,rfl⟩
 . exact .inr ⟨k,a,b,rfl,rfl⟩
 cases e
 exact .inr ⟨k,a,d,rfl,rfl⟩
theorem DT.int{k:IntKind}{a:Int}(h:DT (Ag k a) y):∃b,y=Ag k b:=by
 rcases h with rfl|⟨d,a',c,e,rfl⟩
 . exact⟨_,rfl⟩
 cases e
 exact⟨_,rfl⟩
theorem DT.slice{a:Option Addr}{n c:Nat}(h:DT (Z a n c) y):y=Z a n c:=by
 rcases h with rfl|⟨d,a',b,e,rfl⟩
 . rfl
 cases e
def GG(xs a:Array J):Prop:=xs.size=a.size/\∀(i:Nat) x y,xs[i]?=K x->a[i]?=K y->DT x y
theorem GG.refl(xs:Array J):GG xs xs:=⟨rfl, λi x y b a=>by rw[b]at a;exact .inl (lP a)⟩
theorem GG.at{xs a:Array J}(h:GG xs a){x:J}(c:xs[i]?=K x):∃y,a[i]?=K y/\DT x y:=by
 have b:i<a.size:=by rw[<-h.1];exact(lK.1 c).1
 exact⟨_,pF b,h.2 i x _ c (pF b)⟩
theorem GG.trans{xs b:Array J}(h:GG xs b)(a:GG b c):GG xs c:=by refine⟨h.1.trans a.1, λi x z e g=> ?_⟩;obtain⟨y,f,d⟩:=h.at e;exact d.trans (a.2 i y z f g)
structure Ci(w w':Y):Prop where
 size:(w:Nat)<= ↑w'
 block:∀(k:Nat) (cur:Array J) (t:Aj),w.heap[k]?=K (Obj.cells cur t (0,0))->∃cur',w'.heap[k]?=K (Obj.cells cur' t (0,0))/\GG cur cur'
theorem Ci.refl(w:Y):Ci w w:=⟨Nat.le_refl _, λk a t h=>⟨a,h,.refl _⟩⟩
theorem Ci.trans{w u v:Y}(h:Ci w u)(a:Ci u v):Ci w v:=by refine⟨lQ h.size a.size, λk d t g=> ?_⟩;obtain⟨c1,e,b⟩:=h.block k d t g;obtain⟨c2,f,c⟩:=a.block k c1 t e;exact⟨c2,f,b.trans c⟩
theorem Ci.iX{w b:Y}(h:Ah w w b):Ci w b:=⟨h.size, λk c t a=>⟨c,by rw[h.block k (lK.1 a).1];exact a,.refl _⟩⟩
structure Bv(lo hi:Nat)(w w':Y):Prop where
 os:w'.os=w.os
 tape:w'.tape=w.tape
 output:w'.output=w.output
 size:(w':Nat)= ↑w
 o:∀(k:Nat),k<lo\/hi<=k->w'.heap[k]?=w.heap[k]?
 shaped:Ci w w'
theorem Bv.refl(lo a:Nat)(w:Y):Bv lo a w w:=⟨rfl,rfl,rfl,rfl, λ_ _=>rfl,.refl _⟩
theorem Bv.trans{w u v:Y}(h:Bv lo b w u)(a:Bv lo b u v):Bv lo b w v:=⟨a.os.trans h.os,a.tape.trans h.tape,a.output.trans h.output,a.size.trans h.size, λk c=>(a.o k c).trans (h.o k c),h.shaped.trans a.shaped⟩
theorem Bv.below{w a:Y}(h:Bv lo b w a):Ah lo w a:=⟨h.os,h.tape,h.output,Nat.le_of_eq h.size.symm, λk c=>h.o k (.inl c)⟩
theorem Bv.drew{a:Nat}{w b:Y}(h:Bv lo a w b)(n:Nat):Bv lo a w (b.drewN n):=⟨h.os,h.tape,h.output,h.size,h.o,⟨h.shaped.size,h.shaped.block⟩⟩
theorem Bv.set{lo n:Nat}{w:Y}{f:Array J}{v x:J}(m:w.heap[g]?=K (Obj.cells f t (0,0)))(p:f[i]?=K x)(q:DT x v)(s:lo<=g)(u:g<n):Bv lo n w (Aa w ⟨g,i,M⟩ v):=by
 refine⟨rfl,rfl,rfl,sP, λk c=>mS w _ k v oS,sP, λk c' y c=> ?_⟩;by_cases e:k=g
 . subst e;rw[m]at c;simp only[lH,nL,nU]at c;obtain⟨rfl,rfl⟩:=c;refine⟨_,heap_setCell_same w k i f t v m,sP, λj a b h d=> ?_⟩;by_cases l:j=i
   . subst l;rw[p]at h;obtain rfl:=lP h;have r:=(lK.1 p).1;rw[Array.getElem?_setIfInBounds_self_of_lt r]at d;obtain rfl:=lP d;exact q
   rw[Array.getElem?_setIfInBounds_ne (Ne.symm l),h]at d;exact .inl (lP d)
 exact⟨c',by rw[mS w _ k v e];exact c,.refl _⟩
theorem Bs{w wr:Y}{k n c g:Nat}(h:Ab w base e k (Z g n c) n xs)(E:Ci w wr){x:J}(d:xs[i]?=K x):
 ∃y,wr ⟨g,i,M⟩=K y/\DT x y/\wr.frozen? ⟨g,i,M⟩=false/\∀lo j v,lo<=base-> ↑w<=j->DT x v->Bv lo j wr (wr.setCell ⟨g,i,M⟩ v):=by
 rcases h.2 with⟨t,_⟩|⟨H,cap,q,s,C,l,N,I,L,F⟩
 . cases t
 cases s
 obtain⟨r,f,B⟩:=E.block _ _ _ l;have D:q[i]?=K x:=by rw[<-F]at d;have:=(i8.1 d).1;rw[pG (by simp at this;omega)]at d;simpa using d
 obtain⟨y,p,al⟩:=B.at D;refine⟨y,by rw[o6 wr g i r e _ f];exact p,al,by simp[World.frozen?,f], λlo j v u A m=> ?_⟩;refine Bv.set f p ?_ (lQ u C) (mT (lK.1 l).1 A);rcases al with rfl|⟨G,a,b,rfl,rfl⟩
 . exact m
 obtain⟨z,rfl⟩:=m.int;exact .inr ⟨G,b,z,rfl,rfl⟩
structure EQ(lo hi:Nat)(w w':Y):Prop where
 os:w'.os=w.os
 tape:w'.tape=w.tape
 output:w'.output=w.output
 size:(w:Nat)<= ↑w'
 o:∀(k:Nat),k< ↑w->k<lo\/hi<=k->w'.heap[k]?=w.heap[k]?
 shaped:Ci w w'
theorem EQ.of{c:Nat}{w u d:Y}(a:Ah B w u)(b: ↑w<=B)(h:Bv lo c u d):EQ lo c w d:=⟨h.os.trans a.os,h.tape.trans a.tape,h.output.trans a.output,by rw[h.size];exact a.size, λk f e=>(h.o k e).trans (a.block k (mT f b)),(Ci.iX (a.mono b)).trans h.shaped⟩
theorem EQ.below{c:Nat}{w b:Y}(h:EQ lo c w b)(d:lo<= ↑w):Ah lo w b:=⟨h.os,h.tape,h.output,h.size, λk a=>h.o k (mT a d) (.inl a)⟩
theorem EQ.cell{w d:Y}(h:EQ lo b w d){a:Addr}{x:J}(c:w a=K x)(e:a.block<lo\/b<=a.block):d a=K x:=by have:=h.o a.block (g8 c) e;unfold World.cell? at*;rw[this];exact c
theorem EQ.own{c:Nat}{w f:Y}(h:EQ lo c w f){k n:Nat}(d:Ab w B e k s n xs)(m:c<=B):Ab f B e k s n xs:=by
 refine⟨d.1,?_⟩;rcases d.2 with l|⟨g,cap,i,j,a,b,p⟩
 . exact .inl l
 refine .inr ⟨g,cap,i,j,a,?_,p⟩;rw[h.o g (lK.1 b).1 (.inr (lQ m a))];exact b
def AM(e:Ending)(q:Prop):Prop:=∃b,e=Al (An b)/\(b=true↔q)
theorem AM.iu(h:q):AM (Al true) q:=⟨_,rfl,by simp[h]⟩
theorem AM.no(h:¬q):AM (Al false) q:=⟨_,rfl,by simp[h]⟩
theorem AM.of{b:Bool}(h:b=true↔q):AM (Al b) q:=⟨_,rfl,h⟩
theorem AM.iff{e:Ending}{a:Prop}(h:AM e q)(d:q↔a):AM e a:=by obtain⟨b,rfl,c⟩:=h;exact⟨b,rfl,c.trans d⟩
structure En(w:Y)(b:Nat)(x y z t:J):Prop where
 c0:w b=K x
 c1:w ⟨b,1,M⟩=K y
 c2:w ⟨b,2,M⟩=K z
 c3:w ⟨b,3,M⟩=K t
theorem En.lt{w:Y}{x y z t:J}(h:En w b x y z t):b<w.heap.size:=g8 h.c0
theorem En.a7{w c:Y}{x y z t:J}(h:En w b x y z t)(a:Ah w w c):En c b x y z t:=⟨by rw[a.cell h.lt];exact h.c0,by rw[a.cell h.lt];exact h.c1,by rw[a.cell h.lt];exact h.c2,by rw[a.cell h.lt];exact h.c3⟩
theorem En.new(w:Y)(x y z t:J)(ty:Aj):En (Ac w (Ak #[x,y,z,t] ty)) w x y z t:=by have h:=nT (base:=w) (e:=ty) (size:=4) w #[x,y,z,t] 1 lR oX sP;exact⟨h.cellAt 0 oM,h.cellAt 1 oM,h.cellAt 2 oM,h.cellAt 3 oM⟩
theorem En.alloc{w:Y}{x y z t:J}(h:En w b x y z t)(o:Obj):En (w.alloc o) b x y z t:=h.a7 ((lu _ _).alloc lR _)
theorem Aq(w:Y)(o:Obj):Ah w w (w.alloc o):=(lu _ _).alloc lR _
theorem At(w:Y):Ah w w w.drew:=⟨rfl,rfl,rfl,Nat.le_refl _, λ_ _=>rfl⟩
theorem Ar{w u a:Y}(h:Ah B w u)(c:B<= ↑w)(b:Ah u u a):Ah B w a:=h.trans (b.mono (lQ c h.size))
theorem Bo{w:Y}{k n:Nat}(h:Ab w base e k s n xs):(s=Z M 0 0/\n=0)\/∃g c,s=Z (K ⟨g,0,M⟩) n c:=by
 rcases h.2 with h|⟨g,cap,a,rfl,b,_⟩
 . exact .inl h
 exact .inr ⟨g,cap,rfl⟩
theorem AF{w:Y}{k n:Nat}(h:Ab w base e k s n xs):∃a c,s=Z a n c:=by rcases Bo h with⟨rfl,rfl⟩|⟨g,c,rfl⟩<;>exact⟨_,_,rfl⟩
theorem Ax{P:Program}{c:Code}{Q:Exit->Act->Y->Prop}{U:Y}(R:Y->Prop)(h:R U)(k:∀u,R u->Code.wp P c Q a u):Code.wp P c Q a U:=k U h
theorem PK(q:α->Bool)(a:List α)(k:Nat)(x:α)(c:a[k]?=K x)(h:(a.take k).all q=true):(a.take (k+1)).all q=q x:=by obtain⟨b,rfl⟩:=i8.1 c;rw[l8 b,List.all_append,h];simp
theorem SY(q:α->Bool)(a:List α)(x:α)(b:x∈a)(h:q x=false):a.all q=false:=by rw[List.all_eq_false];exact⟨x,b,by simp[h]⟩
theorem Hv(s:J)(a:List Int)(w:Y)(A:a.length<=1048576)(h:Rd w 1 s a (Ad As a)):
 Ai Ap 38 #[s] w λe C=>e=Al (a.all Fo)/\C=w:=by
 have f:Ae (Rd w 1 s a (Ad As a)):=h;obtain⟨D,c1,rfl⟩:=h.bW;clear h;generalize r:a.length=n at A f;have j:Ae (a.length=n):=r;clear r;generalize b:a.all Fo=R;have l:Ae (a.all Fo=R):=b;clear b;go_enter func38,ntmps38;go_wp2;go_loopw [3] (λi wr=>∃k:Nat,k<=n/\i=Ag Af k/\Ae ((a.take k).all Fo=true)/\wr=w) (λi _=>n-(intOf i).toNat)
 case atStart=>exact⟨0,oM,rfl,by simp[Ae],rfl⟩
 obtain⟨k,F,rfl,m,rfl⟩:=hrel;by_cases z:k<n
 . obtain⟨x,d⟩:∃x,a[k]?=K x:=⟨_,an (by rw[j];exact z)⟩;rcases f.2 with⟨E,_⟩|⟨g,o,c,q,t⟩
   . omega
   simp only[lB,mB]at q;obtain⟨rfl,rfl⟩:=q;have B:=Rd.elem Ay t k x d 0 _ rfl;rw[mO,lJ]at B;have p:Ae (a[k]?=K x):=d;clear t d;go_wp2_with fail;refine(Ei x wr).mono ?_;rintro e u ⟨rfl,rfl⟩;cases hq:Fo x with
   | false=>(have b:R=false:=by rw[<-l];exact SY _ _ _ (lA p) hq);subst b;clear hq;go_wp2;go_ret;exact⟨rfl,rfl⟩
   | true=>(have v:Ae ((a.take (k+1)).all Fo=true):=by show _=_;rw[PK _ _ _ _ p m];exact hq);clear hq;go_wp2;go_roundw;(case rel=>exact⟨k+1,oM,by go_num,v,by trivial⟩);exact oI
 have y:k=n:=oM;subst y;have b:R=true:=by rw[<-l,<-m,<-j,List.take_length]
 subst b;go_wp2;go_ret;exact⟨rfl,rfl⟩
theorem Tn{xs b:List α}{x y:α}(c:xs[k]?=K x)(a:b[k]?=K y)(h:¬x=y):¬xs=b:=by rintro rfl;rw[c]at a;exact h (lP a)
theorem N5{xs a:List α}{x:α}(b:xs[k]?=K x)(c:a[k]?=K x)(h:∀j,j<k->xs[j]?=a[j]?):∀j,j<k+1->xs[j]?=a[j]?:=by
 intro j d;by_cases e:j=k
 . subst e;rw[b,c]
 exact h j oM
theorem QO{xs a:List α}{n:Nat}(c: ↑xs=n)(d: ↑a=n)(h:∀j,j<n->xs[j]?=a[j]?):xs=a:=by
 apply nB;intro j;by_cases b:j<n
 . exact h j b
 rw[lW oM,lW oM]
theorem GY(s v:J)(xs a:List Int)(w:Y)(N:xs.length<=1048576)(O:a.length<=1048576)(h:Rd w 1 s xs (Ad As xs))(q:Rd w 1 v a (Ad As a)):
 Ai Ap 72 #[s,v] w λe S=>AM e (xs=a)/\∃m,S=w.drewN m:=by
 have p:Ae (Rd w 1 s xs (Ad As xs)):=h;have d:Ae (Rd w 1 v a (Ad As a)):=q;obtain⟨T,c1,rfl⟩:=h.bW;obtain⟨U,c2,rfl⟩:=q.bW;clear h q;by_cases b:xs.length= ↑a
 . rw [<-b]at d;rw[<-b];clear O;generalize r:xs.length=n at N p d;have f:Ae (↑xs=n/\ ↑a=n):=⟨r,b▸r⟩
   clear r b;go_enter func72,ntmps72;go_wp2;go_loopw [5] (λi wr=>∃k:Nat,k<=n/\i=Ag Af k/\Ae (∀j,j<k->xs[j]?=a[j]?)/\∃m,wr=w.drewN m) (λi _=>n-(intOf i).toNat)
   (case atStart=>exact⟨0,oM,rfl, λj X=>oM,0,rfl⟩);obtain⟨k,hk,rfl,z,m,rfl⟩:=hrel;by_cases E:k<n
   . obtain⟨x,t⟩:∃x,xs[k]?=K x:=⟨_,an (by rw[f.1];exact E)⟩;obtain⟨y,u⟩:∃y,a[k]?=K y:=⟨_,an (by rw[f.2];exact E)⟩;rcases p.2 with⟨I,_⟩|⟨g,o,c,A,C⟩
     . omega
     rcases d.2 with⟨I,_⟩|⟨V,o',c',B,D⟩
     . omega
     simp only[lB,mB]at A B;obtain⟨rfl,rfl⟩:=A;obtain⟨rfl,rfl⟩:=B;have P:=Rd.elem Ay C k x t 0 _ rfl;have Q:=Rd.elem Ay D k y u 0 _ rfl;rw[mO,lJ]at P Q;have l:Ae (xs[k]?=K x/\a[k]?=K y):=⟨t,u⟩
     clear C D t u;by_cases G:x=y
     . subst G;go_wp2;go_quiet (fail);go_wp2;go_roundw;(case rel=>exact⟨k+1,oM,by go_num,N5 l.1 l.2 z,_,rfl⟩);exact oI
     go_wp2;go_quiet (fail);go_wp2;go_ret;exact⟨.no (Tn l.1 l.2 G),m+nq,World.drewN_drewN _ _ _⟩
   have L:k=n:=oM;subst L;go_wp2;go_ret;exact⟨.iu (QO f.1 f.2 z),_,rfl⟩
 have F:¬xs=a:= λe=>b (by rw[e])
 clear p d;generalize xs.length=n at*;generalize a.length=R at*;have H:Ae (¬xs=a):=F;clear F;have W:¬(n:Int)=(R:Int):=oM;go_enter func72,ntmps72;go_wp2;go_ret;exact⟨.no H,0,rfl⟩
theorem Mn(s v:J)(xs a:List Int)(w:Y)(N:xs.length<=1048576)(O:a.length<=1048576)(h:Rd w 1 s xs (Ad As xs))(q:Rd w 1 v a (Ad As a)):
 Ai Ap 263 #[s,v] w λe S=>AM e (xs=a)/\∃m,S=w.drewN m:=by
 have p:Ae (Rd w 1 s xs (Ad As xs)):=h;have d:Ae (Rd w 1 v a (Ad As a)):=q;obtain⟨T,c1,rfl⟩:=h.bW;obtain⟨U,c2,rfl⟩:=q.bW;clear h q;by_cases b:xs.length= ↑a
 . rw [<-b]at d;rw[<-b];clear O;generalize r:xs.length=n at N p d;have f:Ae (↑xs=n/\ ↑a=n):=⟨r,b▸r⟩
   clear r b;go_enter func263,ntmps263;go_wp2;go_loopw [13] (λi wr=>∃k:Nat,k<=n/\i=Ag Af k/\Ae (∀j,j<k->xs[j]?=a[j]?)/\∃m,wr=w.drewN m) (λi _=>n-(intOf i).toNat)
   (case atStart=>exact⟨0,oM,rfl, λj X=>oM,0,rfl⟩);obtain⟨k,hk,rfl,z,m,rfl⟩:=hrel;by_cases E:k<n
   . obtain⟨x,t⟩:∃x,xs[k]?=K x:=⟨_,an (by rw[f.1];exact E)⟩;obtain⟨y,u⟩:∃y,a[k]?=K y:=⟨_,an (by rw[f.2];exact E)⟩;rcases p.2 with⟨I,_⟩|⟨g,o,c,A,C⟩
     . omega
     rcases d.2 with⟨I,_⟩|⟨V,o',c',B,D⟩
     . omega
     simp only[lB,mB]at A B;obtain⟨rfl,rfl⟩:=A;obtain⟨rfl,rfl⟩:=B;have P:=Rd.elem Ay C k x t 0 _ rfl;have Q:=Rd.elem Ay D k y u 0 _ rfl;rw[mO,lJ]at P Q;have l:Ae (xs[k]?=K x/\a[k]?=K y):=⟨t,u⟩
     clear C D t u;by_cases G:x=y
     . subst G;go_wp2;go_quiet (fail);go_wp2;go_roundw;(case rel=>exact⟨k+1,oM,by go_num,N5 l.1 l.2 z,_,rfl⟩);exact oI
     go_wp2;go_quiet (fail);go_wp2;go_ret;exact⟨.no (Tn l.1 l.2 G),m+nq,World.drewN_drewN _ _ _⟩
   have L:k=n:=oM;subst L;go_wp2;go_ret;exact⟨.iu (QO f.1 f.2 z),_,rfl⟩
 have F:¬xs=a:= λe=>b (by rw[e])
 clear p d;generalize xs.length=n at*;generalize a.length=R at*;have H:Ae (¬xs=a):=F;clear F;have W:¬(n:Int)=(R:Int):=oM;go_enter func263,ntmps263;go_wp2;go_ret;exact⟨.no H,0,rfl⟩
structure AC(w:Y) where
 u:Y
 h:Ah w w u
theorem AC.some(w:Y):Nonempty (AC w):=⟨⟨w,lu _ _⟩⟩
theorem AN{P:Program}{Q:Exit->Act->Y->Prop}{w:Y}{l:List Oper}(d:P.follows .mixedOrders=true)(c:Region.lexB .any l.toArray=true)
 (h:wpQuiet P l.toArray (λb=>∃n:AC w,b=n.u) (λa'=>∀b,(∃n:AC w,b=n.u)->Q .normal a' b) l a):(Code.region id l.toArray true).wp P Q a w:=
 wp_region_quiet (C:= λb=>∃n:AC w,b=n.u) d c ⟨⟨_,At w⟩,rfl⟩ (by simpa using h)
theorem AM.true{e:Ending}(h:AM e q)(c:q):e=Al true:=by obtain⟨b,rfl,a⟩:=h;rw[a.2 c]
theorem AM.false{e:Ending}(h:AM e q)(c:¬q):e=Al false:=by
 obtain⟨b,rfl,a⟩:=h;cases b
 . rfl
 exact absurd (a.1 rfl) c
theorem AC.cell{w:Y}{a:Addr}{x:J}(h:w a=Option.some x)(n:AC w):n.u a=Option.some x:=by rw[n.h.cell (g8 h)];exact h
def AA(w:Y)(b:Nat)(a:Array J)(t:Aj):Prop:=w.heap[b]?=K (Ak a t (0,0))
theorem AA.new(w:Y)(a:Array J)(t:Aj):AA (Ac w (Ak a t)) w a t:=pH
theorem AA.lt{w:Y}{a:Array J}(h:AA w b a t):b<w.heap.size:=(lK.1 h).1
theorem AA.a7{w c:Y}{a:Array J}(h:AA w b a t)(d:Ah w w c):AA c b a t:=by unfold AA at*;rw[d.block b (lK.1 h).1];exact h
theorem AA.cell{w:Y}{a:Array J}(h:AA w b a t)(i:Nat):w ⟨b,i,M⟩=a[i]?:=o6 w b i a t _ h
theorem AA.frozen{w:Y}{a:Array J}(h:AA w b a t)(i:Nat):w.frozen? ⟨b,i,M⟩=false:=frozen_of_row w b i a t h
theorem AA.set{w:Y}{a:Array J}(h:AA w b a t)(i:Nat)(x:J):AA (Aa w ⟨b,i,M⟩ x) b (a.setIfInBounds i x) t:=heap_setCell_same w b i a t x h
theorem AA.other{w:Y}(h:AA w b c t){a:Addr}(d:b≠a.block)(x:J):AA (w.setCell a x) b c t:=by unfold AA at*;rw[mS w a b x d];exact h
theorem AA.grown{w f:Y}{d:Array J}(h:AA w b d t){m:Nat}{g:List J}(i:w.grownBy f v.ownBlock)(l:Ab w B e k v m g)(j:t≠e):AA f b d t:=by
 unfold AA at*;rw[i.block b (lK.1 h).1 ?_]
 . exact h
 intro c;rcases l.2 with⟨rfl,_⟩|⟨q,n,p,rfl,_,a,_⟩
 . cases c
 simp only[Value.ownBlock,lH]at c;subst c;rw[h]at a;simp only[lH,nL]at a;exact j a.2.1
def AO(f:MF)(k:Int):Int:=if k<0 then 0 else(f.gU++f.gW).getD k.toNat 0
theorem Hz{f:MF}{k:Int}(h:k<0):AO f k=0:=lZ h
theorem KK{f:MF}{x:Int}(h:f.gU[k]?=K x):AO f k=x:=by obtain⟨a,rfl⟩:=i8.1 h;unfold AO;rw[lS oM,lN,lD,mP a,an a];rfl
theorem KI{f:MF}{x:Int}(h:f.gW[k]?=K x):AO f ((f.gU:Int)+k)=x:=by
 obtain⟨a,rfl⟩:=i8.1 h;unfold AO;have e:((f.gU:Int)+k).toNat= ↑f.gU+k:=oM
 rw[lS oM,lN,e,lY oM,nA,an a];rfl
theorem KJ{f:MF}{k:Int}(h:(f.gU:Int)+ ↑f.gW<=k):AO f k=0:=by unfold AO;rw[lS oM,lN,lW (by rw[lG];omega)];rfl
theorem Iw(h:q:=by go_enter func63,ntmps63;go_wp2;go_ret;exact⟨rfl,HB⟩):q:=h
theorem EH(v:VF)(f:MF)(k:Int)(w:Y)(H:f.small)(A:Dv k)(h:DF w v f):
 Ai Ap 63 #[Am #[v.p,f.gV,v.l,v.c],k] w λe Q=>e=Al (AO f k)/\Ah w w Q:=by
 have G:-9223372036854775808<=k/\k<=9223372036854775807:=by simpa[Dv,Lit.wf,IntKind.min,IntKind.max,IntKind.signed,IntKind.bits]using A
 obtain⟨R,S⟩:=G;obtain⟨U,V,O⟩:=H;have u:Ae (DF w v f):=h;obtain⟨E,c1,b⟩:=h.1.bW;obtain⟨F,c2,y⟩:=h.2.1.bW;obtain⟨X,W,P⟩:=v;simp only[]at b y;subst b;subst y;clear h A O;have t:=Xt.of w 76 #[Z E f.gU c1,f.gV,Z F f.gW c2,P] rfl;have HB:Ae _:=t.ej;clear t;generalize B:f.gU.length=m at*;generalize C:f.gW.length=D at*;have d:Ae (↑f.gU=m/\ ↑f.gW=D):=⟨B,C⟩
 clear B C;by_cases L:k<0
 . rw[Hz L];exact Iw
 obtain⟨j,rfl⟩:=mA (show 0<=k from oM);by_cases N:j<m
 . obtain⟨x,i⟩:∃x,f.gU[j]?=K x:=⟨_,an (by rw[d.1];exact N)⟩;rw[KK i];rcases u.1.2 with⟨r,_⟩|⟨g,o,c,b,n⟩
   . rw[d.1]at r;omega
   simp only[lB]at b;obtain⟨rfl,s,rfl⟩:=b;clear s;have a:=Rd.elem Ay n j x i 0 _ rfl;rw[mO,lJ]at a;have I:=(HB.cell (g8 a)).trans a;clear n i a;exact Iw
 by_cases T:j<m+D
 . obtain⟨x,i⟩:∃x,f.gW[j-m]?=K x:=⟨_,an (by rw[d.2];omega)⟩;have q:=KI i;rw[d.1]at q;have z:((m:Int)+((j-m:Nat):Int))=(j:Int):=oM;rw[z]at q;rw[q];rcases u.2.1.2 with⟨r,_⟩|⟨g,o,c,b,n⟩
   . rw[d.2]at r;omega
   simp only[lB]at b;obtain⟨rfl,s,rfl⟩:=b;clear s;have a:=Rd.elem Ay n (j-m) x i 0 _ rfl;rw[mO,lJ]at a;have I:=(HB.cell (g8 a)).trans a;clear n i a q z;exact Iw
 rw[KJ (by rw[d.1,d.2];omega)];exact Iw
theorem FN(d:Y)(base:Nat)(s:J)(a:List Int)(b:Int)(w:Y)(A:a.length<=1048576)(D:0<=b)(E:b<=1152921504606846976)(h:Ab d base 2 1 s a (Ad As a))(j:Ci d w):
 Ai Ap 34 #[s,b] w λe C=>e=Al (iZ (b+(a:Int)))/\Bv base d w C:=by
 have H:=Av (d5 h j);rcases Bo h with⟨rfl,B⟩|⟨g,c,rfl⟩
 . clear h j;rw[B];go_enter func34,ntmps34;go_wp2;go_loopw [1,5] (λq i wr=>q=iZ b/\i=iZ 0/\wr=w) (λ_ _ _=>0)
   (case atStart=>exact⟨rfl,rfl,rfl⟩);obtain⟨rfl,rfl,rfl⟩:=hrel;go_wp2;go_ret;exact⟨sP,Bv.refl _ _ _⟩
 clear h j;generalize p:a.length=n at A H⊢;have u:=Av p;clear p;go_enter func34,ntmps34;go_wp2;go_loopw [1,5] (λq i wr=>∃k:Nat,k<=n/\q=iZ (b+k)/\i=iZ k/\Ae (Bv base d w wr)) (λ_ i _=>n-(intOf i).toNat)
 case atStart=>exact⟨0,oM,sP,rfl,Bv.refl _ _ _⟩
 obtain⟨k,F,rfl,rfl,f⟩:=hrel;by_cases z:k<n
 . obtain⟨x,r⟩:∃x,a[k]?=K x:=⟨_,an (by rw[u];exact z)⟩;have m:=H.2.trans f.shaped;have f0:=BU As 1 Ay a k 0 x r oM;rw[mO,lJ]at f0;obtain⟨G,c0,a0,I,t⟩:=Bs H.1 (m) f0;have l:=t base d (iZ (b+k)) lR lR (.inr ⟨Af,x,_,rfl,rfl⟩);have v:=Av ((f.o).trans l);clear a0 t l f0 r m;go_wp2;go_roundw;(case rel=>exact⟨k+1,oM,by go_num,by go_num,v⟩);exact oI
 have y:k=n:=oM;subst y;go_wp2;go_ret;exact⟨rfl,f⟩
theorem L5(d:Y)(base:Nat)(s:J)(a:List MC)(b:Int)(w:Y)(D:a.length<=1048576)(L:0<=b)(N:b<=1152921504606846976)(h:Ab d base 102 2 s a (Ad MC.cells a))(m:Ci d w):
 Ai Ap 31 #[s,b] w λe F=>e=Al (iZ (b+2*(a:Int)))/\Bv base d w F:=by
 have H:=Av (d5 h m);rcases Bo h with⟨rfl,E⟩|⟨g,c,rfl⟩
 . clear h m;rw[E];go_enter func31,ntmps31;go_wp2;go_loopw [1,5] (λq i wr=>q=iZ b/\i=iZ 0/\wr=w) (λ_ _ _=>0)
   (case atStart=>exact⟨rfl,rfl,rfl⟩);obtain⟨rfl,rfl,rfl⟩:=hrel;go_wp2;go_ret;exact⟨sP,Bv.refl _ _ _⟩
 clear h m;generalize t:a.length=n at D H⊢;have y:=Av t;clear t;go_enter func31,ntmps31;go_wp2;go_loopw [1,5] (λq i wr=>∃k:Nat,k<=n/\q=iZ (b+2*k)/\i=iZ k/\Ae (Bv base d w wr)) (λ_ i _=>n-(intOf i).toNat)
 case atStart=>exact⟨0,oM,sP,rfl,Bv.refl _ _ _⟩
 obtain⟨k,O,rfl,rfl,j⟩:=hrel;by_cases C:k<n
 . obtain⟨x,p⟩:∃x,a[k]?=K x:=⟨_,an (by rw[y];exact C)⟩;have f:=H.2.trans j.shaped;have f0:=BU MC.cells 2 MC.dr a k 0 x p oM;rw[lJ]at f0;obtain⟨P,c0,a0,R,u⟩:=Bs H.1 (f) f0;have l:=u base d (iZ (b+2*k)) lR lR (.inr ⟨Af,x.type,_,rfl,rfl⟩);have f1:=BU MC.cells 2 MC.dr a k 1 x p oM;obtain⟨Q,c1,A,S,v⟩:=Bs H.1 ((f).trans l.shaped) f1;have r:=v base d (Ag .u32 ((b+2*k+1) % 4294967296)) lR lR (.inr ⟨.u32,x.word,_,rfl,rfl⟩);obtain⟨G,I,_⟩:=Bs H.1 f f1;have z:=Av (((j.o).trans l).trans r);clear a0 u l f0 A v r f1 p f;go_wp2;go_roundw;(case rel=>exact⟨k+1,oM,by go_num,by go_num,z⟩);exact oI
 have B:k=n:=oM;subst B;go_wp2;go_ret;exact⟨rfl,j⟩
theorem L7(l:Y)(base:Nat)(s:J)(d:List MI)(f:Int)(w:Y)(P:d.length<=1048576)(h0:0<=f)(h1:f<=1152921504606846976)(h:Ab l base 79 4 s d (Ad MI.cells d))(v:Ci l w):
 Ai Ap 59 #[s,f] w λe R=>e=Al (iZ (f+4*(d:Int)))/\Bv base l w R:=by
 have H:=Av (d5 h v);rcases Bo h with⟨rfl,Q⟩|⟨g,c,rfl⟩
 . clear h v;rw[Q];go_enter func59,ntmps59;go_wp2;go_loopw [1,5] (λq i wr=>q=iZ f/\i=iZ 0/\wr=w) (λ_ _ _=>0)
   (case atStart=>exact⟨rfl,rfl,rfl⟩);obtain⟨rfl,rfl,rfl⟩:=hrel;go_wp2;go_ret;exact⟨sP,Bv.refl _ _ _⟩
 clear h v;generalize z:d.length=n at P H⊢;have E:=Av z;clear z;go_enter func59,ntmps59;go_wp2;go_loopw [1,5] (λq i wr=>∃k:Nat,k<=n/\q=iZ (f+4*k)/\i=iZ k/\Ae (Bv base l w wr)) (λ_ i _=>n-(intOf i).toNat)
 case atStart=>exact⟨0,oM,sP,rfl,Bv.refl _ _ _⟩
 obtain⟨k,hk,rfl,rfl,t⟩:=hrel;by_cases O:k<n
 . obtain⟨x,p⟩:∃x,d[k]?=K x:=⟨_,an (by rw[E];exact O)⟩;have j:=H.2.trans t.shaped;have f0:=BU MI.cells 4 MI.dr d k 0 x p oM;rw[lJ]at f0;obtain⟨y0,c0,a0,z0,A⟩:=Bs H.1 (j) f0;have m:=A base l (iZ (f+4*k)) lR lR (.inr ⟨Af,x.op,_,rfl,rfl⟩);have f1:=BU MI.cells 4 MI.dr d k 1 x p oM;obtain⟨y1,c1,G,z1,B⟩:=Bs H.1 ((j).trans m.shaped) f1;have r:=B base l (iZ (f+4*k+1)) lR lR (.inr ⟨Af,x.a,_,rfl,rfl⟩);obtain⟨S,V,_⟩:=Bs H.1 j f1;have f2:=BU MI.cells 4 MI.dr d k 2 x p oM;obtain⟨y2,c2,I,z2,C⟩:=Bs H.1 (((j).trans m.shaped).trans r.shaped) f2;have u:=C base l (iZ (f+4*k+1+1)) lR lR (.inr ⟨Af,x.b,_,rfl,rfl⟩);obtain⟨T,W,_⟩:=Bs H.1 j f2;have f3:=BU MI.cells 4 MI.dr d k 3 x p oM;obtain⟨y3,c3,L,z3,D⟩:=Bs H.1 ((((j).trans m.shaped).trans r.shaped).trans u.shaped) f3;have y:=D base l (iZ (f+4*k+1+1+1)) lR lR (.inr ⟨Af,x.c,_,rfl,rfl⟩);obtain⟨U,X,_⟩:=Bs H.1 j f3;have F:=Av (((((t.o).trans m).trans r).trans u).trans y);clear a0 A m f0 G B r f1 I C u f2 L D y f3 p j;go_wp2;go_roundw;(case rel=>exact⟨k+1,oM,by go_num,by go_num,F⟩);exact oI
 have N:k=n:=oM;subst N;go_wp2;go_ret;exact⟨rfl,t⟩
theorem M9(f:Y)(base:Nat)(s:J)(a:List MT)(b:Int)(w:Y)(N:a.length<=1048576)(W:0<=b)(X:b<=1152921504606846976)(h:Ab f base 96 4 s a (Ad MT.cells a))(t:Ci f w):
 Ai Ap 33 #[s,b] w λe P=>e=Al (iZ (b+4*(a:Int)))/\Bv base f w P:=by
 have H:=Av (d5 h t);rcases Bo h with⟨rfl,O⟩|⟨g,c,rfl⟩
 . clear h t;rw[O];go_enter func33,ntmps33;go_wp2;go_loopw [1,5] (λq i wr=>q=iZ b/\i=iZ 0/\wr=w) (λ_ _ _=>0)
   (case atStart=>exact⟨rfl,rfl,rfl⟩);obtain⟨rfl,rfl,rfl⟩:=hrel;go_wp2;go_ret;exact⟨sP,Bv.refl _ _ _⟩
 clear h t;generalize v:a.length=n at N H⊢;have C:=Av v;clear v;go_enter func33,ntmps33;go_wp2;go_loopw [1,5] (λq i wr=>∃k:Nat,k<=n/\q=iZ (b+4*k)/\i=iZ k/\Ae (Bv base f w wr)) (λ_ i _=>n-(intOf i).toNat)
 case atStart=>exact⟨0,oM,sP,rfl,Bv.refl _ _ _⟩
 obtain⟨k,hk,rfl,rfl,p⟩:=hrel;by_cases L:k<n
 . obtain⟨x,l⟩:∃x,a[k]?=K x:=⟨_,an (by rw[C];exact L)⟩;have d:=H.2.trans p.shaped;have f0:=BU MT.cells 4 MT.dr a k 0 x l oM;rw[lJ]at f0;obtain⟨y0,c0,a0,z0,y⟩:=Bs H.1 (d) f0;have j:=y base f (iZ (b+4*k)) lR lR (.inr ⟨Af,x.func,_,rfl,rfl⟩);have f1:=BU MT.cells 4 MT.dr a k 1 x l oM;obtain⟨y1,c1,E,z1,z⟩:=Bs H.1 ((d).trans j.shaped) f1;have m:=z base f (iZ (b+4*k+1)) lR lR (.inr ⟨Af,x.head,_,rfl,rfl⟩);obtain⟨Q,T,_⟩:=Bs H.1 d f1;have f2:=BU MT.cells 4 MT.dr a k 2 x l oM;obtain⟨y2,c2,F,z2,A⟩:=Bs H.1 (((d).trans j.shaped).trans m.shaped) f2;have r:=A base f (iZ (b+4*k+1+1)) lR lR (.inr ⟨Af,x.hQ,_,rfl,rfl⟩);obtain⟨R,U,_⟩:=Bs H.1 d f2;have f3:=BU MT.cells 4 MT.dr a k 3 x l oM;obtain⟨y3,c3,G,z3,B⟩:=Bs H.1 ((((d).trans j.shaped).trans m.shaped).trans r.shaped) f3;have u:=B base f (Ag .u32 ((b+4*k+1+1+1) % 4294967296)) lR lR (.inr ⟨.u32,x.init,_,rfl,rfl⟩);obtain⟨S,V,_⟩:=Bs H.1 d f3;have D:=Av (((((p.o).trans j).trans m).trans r).trans u);clear a0 y j f0 E z m f1 F A r f2 G B u f3 l d;go_wp2;go_roundw;(case rel=>exact⟨k+1,oM,by go_num,by go_num,D⟩);exact oI
 have I:k=n:=oM;subst I;go_wp2;go_ret;exact⟨rfl,p⟩
section
variable {P:Program} {ops:Array Oper} {Q:Exit->Act->Y->Prop} {md:Region.Mode} {S:Y->Prop} {n:Nat}
def Dk(P:Program)(md:Region.Mode)(ops:Array Oper)(Q:Exit->Act->Y->Prop)(S:Y->Prop)(n:Nat):Nat->Array Bool->Act->Y->Prop
 |0,d,a,w=>Region.ready md ops d=[]/\Q .normal a w
 |f+1,d,a,w=>(Region.ready md ops d=[]->Q .normal a w)/\∀i∈Region.ready md ops d,wpOp P ops Q i (λa' b=>(i<n->S b)/\Dk P md ops Q S n f (d.setIfInBounds i true) a' b) a w
theorem Mp:∀(f:Nat) (d:Array Bool) (a:Act) (w:Y),Dk P md ops Q S n f d a w->wpAny P md ops Q f d a w
 |0,_,_,_,h=>h
 |f+1,_,_,_,h=>⟨h.1, λi c=>wpOp_mono (λa' e b=>Mp f _ a' e b.2) (h.2 i c)⟩
theorem Pm{m:Oper}(y:ops[i]?=K m)(E:∀(j:Nat) (o:Oper) r b,ops[j]?=K o->o.op≠ .select r b)
 (L:∀c a w,Q (.panic c) (a.put m.dst v) w->Q (.panic c) a w) (hs:Region.sinkB md ops n=true) (R:Region.chainB md ops n=true) (hn:n<ops.size) (W:i<n):
 ∀ (f:Nat) (d:Array Bool) (a:Act) (w:Y),HeadInv md ops n d->
   (∀j p,ops[j]?=K p->j≠i->d.getD j true=false->(∀e∈p.after,Region.binds md e=true->e.on≠i)->m.apart ops p=true)->
   i∈Region.ready md ops d->YieldsIf P ops S m v a->S w->
   Dk P md ops Q S n f (d.setIfInBounds i true) (a.put m.dst v) w->Dk P md ops Q S n (f+1) d a w:=by
 intro f;induction f with
 | zero=>
   intro d a w _ _ l x s H;refine⟨λh=>(by rw[h]at l;cases l), λj q=> ?_⟩;by_cases g:j=i
   . subst g;exact x.wpOp y s ⟨λ_=>s,H⟩
   have:=ready_mono q g;rw[H.1]at this;cases this
 | succ f ih=>
   intro d a w G A l x s H;refine⟨λh=>(by rw[h]at l;cases l), λj q=> ?_⟩;by_cases g:j=i
   . subst g;exact x.wpOp y s ⟨λ_=>s,H⟩
   (have C:j<n:=Nat.lt_of_not_le λh=>tail_waits hs R hn G _ i rfl W (mem_ready.1 l).1 j h q);have t:=H.2 j (ready_mono q g);obtain⟨D,p,z,N⟩:=mem_ready.1 q;(have aj:∀e∈p.after,Region.binds md e=true->e.on≠i:= λe T O U=>by have t:=N e T O;rw[U,getD_both (mem_ready.1 l).1]at t;cases t);have I:=wpOp_putIf z (A j p z g D aj) (λr b=>E i m r b y) (λr b=>E j p r b z) L x t;have V:∀k ok,ops[k]?=K ok->k≠i->(d.setIfInBounds j true).getD k true=false->
    (∀e∈ok.after,Region.binds md e=true->e.on≠i)->m.apart ops ok=true:= λk ok X ae F ah=>by
    refine A k ok X ae ?_ ah;by_cases B:j=k
    . subst B;exact D
    rw[getD_set_ne true B]at F;exact F
   refine wpOp_mono (λa' w' u=>⟨u.2.1,ih (d.setIfInBounds j true) a' w' (G.set q C) V (ready_mono l (Ne.symm g)) u.1 (u.2.1 C) ?_⟩) I;rw[Array.setIfInBounds_comm _ _ g];exact u.2.2
def S9(md:Region.Mode)(ops:Array Oper)(n:Nat)(d:Array Bool):Bool:=d.size==ops.size&&(List.range ops.size).all (λj=> !d.getD j false||((ops[j]?).map (·.after.all λe=> !Region.binds md e||d.getD e.on false)).getD true)&&(List.range ops.size).all (λt=>decide (t<n)|| !d.getD t true)&&Region.sinkB md ops n&&Region.chainB md ops n&&decide (n<ops.size)
theorem RY(h:S9 md ops n d=true):HeadInv md ops n d/\Region.sinkB md ops n=true/\Region.chainB md ops n=true/\n<ops.size:=by
 simp only[S9,nO,my,beq_iff_eq]at h;obtain⟨⟨⟨⟨⟨b,c⟩,f⟩,g⟩,i⟩,k⟩:=h;refine⟨⟨b, λj s a p e m l=> ?_, λt r q=> ?_⟩,g,i,k⟩
 . have:=oy.1 c j (nE.2 (lK.1 a).1);rw[p,a]at this;simp only[Bool.not_true,Bool.false_or,oL,ov]at this;have:=Array.all_eq_true'.1 this e m;rw[l]at this;simpa using this
 have:=oy.1 f t (nE.2 q);rw[mU oM]at this;simpa using this
theorem Q6{e:Oper}{w:Y}(g:ops[i]?=K e)
 (r:Region.noSelect ops=true) (m:Region.free md ops d i=true) (q:(Region.ready md ops d).contains i=true) (l:S9 md ops n d=true) (p:i<n)
 (j:∀c a w,Q (.panic c) (a.put e.dst v) w->Q (.panic c) a w) (s:YieldsIf P ops S e v a) (k:S w)
 (h:Dk P md ops Q S n f (d.setIfInBounds i true) (a.put e.dst v) w):Dk P md ops Q S n (f+1) d a w:=
 have b:=RY l
 Pm g (Region.noSelect_spec r) j b.2.1 b.2.2.1 b.2.2.2 p f d a w b.1 (Region.free_spec g m) (by simpa using q) s k h
def DA(P:Program)(md:Region.Mode)(ops:Array Oper)(Q:Exit->Act->Y->Prop)(S:Y->Prop)(n f:Nat)(d:Array Bool)(a:Act)(w:Y)(rs:List Nat):Prop:=∀i∈rs,wpOp P ops Q i (λa' b=>(i<n->S b)/\Dk P md ops Q S n f (d.setIfInBounds i true) a' b) a w
theorem DA.nil{w:Y}:DA P md ops Q S n f d a w []:= λ_ h=>by cases h
theorem DA.cons{w:Y}{o:Oper}(l:ops[i]?=K o)
 (h:∀b:Act->Y->Prop,Shut (∀a w,(i<n->S w)->((i<n->S w)->Dk P md ops Q S n f (d.setIfInBounds i true) a w)->b a w)->if Region.wanted o (yielded ops a.tmps)=true then Oper.wp P o a w b Q else b (a.put o.dst undef) w)
 (m:DA P md ops Q S n f d a w rs):DA P md ops Q S n f d a w (i::rs):= λj c=>by
 rcases lw.1 c with rfl|c
 . have:=h (λa' g=>(j<n->S g)/\Dk P md ops Q S n f (d.setIfInBounds j true) a' g) (show Shut _ from λa w e k=>⟨e,k e⟩)
   unfold wpOp;simp only[l];split
   . rename_i hw;simp only[hw,if_true]at this;exact .inl this
   rename_i hw;simp only[hw]at this;exact this
 exact m j c
theorem Pn{w:Y}(b:Region.ready md ops d=rs)(e:rs≠[])
 (h:DA P md ops Q S n f d a w rs):Dk P md ops Q S n (f+1) d a w:=⟨λc=>absurd (b▸c) e,b▸h⟩
theorem Ii{w:Y}(b:Region.ready md ops d=[])(h:Q .normal a w):∀f,Dk P md ops Q S n f d a w
 |0=>⟨b,h⟩
 |_+1=>⟨λ_=>h,by rw[b];simp⟩
theorem Em(n:Nat){w:Y}(c:P.follows .mixedOrders=true)(b:S w.drew)
 (h:S w.drew->Dk P .any ops Q S n ops.size (Array.replicate ops.size false) a w.drew):(Code.region id ops true).wp P Q a w:=
 wp_region_any c (Mp _ _ _ _ (h b))
end
def Bw(k:Int)(n:Nat):List Int:=(List.range n).map λ(i:Nat)=>k+(i:Int)
theorem Dq(k:Int)(n:Nat):(Bw k n).length=n:=by simp[Bw]
theorem Qu(k:Int)(n:Nat):Bw k (n+1)=Bw k n++[k+(n:Int)]:=by simp[Bw,List.range_succ]
def Dw(k:Int)(a:List Int)(j:Nat):List Int:=Bw k j++a.drop j
theorem OV(k:Int)(a:List Int):Dw k a 0=a:=by simp[Dw,Bw]
theorem Qt(k:Int)(a:List Int)(n:Nat)(h: ↑a=n):Dw k a n=Bw k n:=by simp[Dw,<-h]
theorem IP(k:Int)(a:List Int)(j:Nat)(x:Int)(h:a[j]?=K x):Ad As (Dw k a j)=Ad As (Bw k j)++(As x++Ad As (a.drop (j+1))):=by obtain⟨b,rfl⟩:=i8.1 h;unfold Dw;rw[mH,mq b,mF]
theorem OU(k:Int)(a:List Int)(j:Nat)(x:Int)(h:a[j]?=K x):(Ad As (Dw k a j)).set j (Ag Af (k+(j:Int)))=Ad As (Dw k a (j+1)):=by
 have b:(Ad As (Bw k j)).length=j:=by rw[AE As 1 Ay,Dq,mO]
 rw[IP k a j x h];have:=Wc (Ad As (Bw k j)) (Ad As (a.drop (j+1))) x (Ag Af (k+(j:Int))) j b;refine this.trans ?_;unfold Dw;rw[Qu,mH,mH,nN];simp[As]
theorem LK{w wr:Y}(h:w.grownBy wr (K g))(i:Nat)(x:J):w.grownBy (Aa wr ⟨g,i,M⟩ x) (K g):=⟨h.os,h.tape,h.output,by rw[mc];exact h.size, λk b a=>(mS wr _ k x (λe=>a (by rw[e]))).trans (h.block k b a)⟩
theorem Dz{w b:Y}{k n:Nat}{row:Option Nat}(h:Ab w base e k s n xs)(f:w.grownBy b row)(i:∀g,s.ownBlock=K g->K g≠row):Ab b base e k s n xs:=by
 refine⟨h.1,?_⟩;rcases h.2 with h|⟨g,cap,c,rfl,d,a,j⟩
 . exact .inl h
 refine .inr ⟨g,cap,c,rfl,d,?_,j⟩;rw[f.block g (lK.1 a).1 (i g rfl)];exact a
def Jk(x y:J×List Int):Prop:=∀g,x.1.ownBlock=K g->y.1.ownBlock≠K g
theorem Jk.symm{x y:J×List Int}(h:Jk x y):Jk y x:= λg a e=>h g e a
structure Cl(w:Y)(base:Nat)(L:List (J×List Int)):Prop where
 own:∀x∈L,Ab w base 2 1 x.1 x.2 (x.2.flatMap As)
 sep:L.Pairwise Jk
structure Wv(base:Nat)(w w':Y):Prop where
 ej:Ah base w w'
 ie:∀(k:Nat) (cur:Array J) (t:Aj),w.heap[k]?=K (Obj.cells cur t (0,0))->t≠2->w'.heap[k]?=K (Obj.cells cur t (0,0))
theorem Wv.refl(base:Nat)(w:Y):Wv base w w:=⟨lu _ _, λ_ _ _ h _=>h⟩
theorem Wv.trans{u v w:Y}(h:Wv base u v)(b:Wv base v w):Wv base u w:=⟨h.ej.trans b.ej, λk a t d c=>b.ie k a t (h.ie k a t d c) c⟩
theorem Wv.jM{base n:Nat}{w f:Y}(d:Ab w base 2 1 s n xs)(a:w.grownBy f s.ownBlock)(m:base<= ↑w):Wv base w f:=by
 refine⟨⟨a.os,a.tape,a.output,a.size, λk b=>a.block k oM (λe=>by have:=(d.lt k e.symm).1;omega)⟩, λk i t b g=> ?_⟩;rw[a.block k (lK.1 b).1 ?_]
 . exact b
 intro e;rcases d.2 with⟨rfl,_⟩|⟨l,h,j,rfl,_,c,_⟩
 . cases e
 simp only[Value.ownBlock,lH]at e;subst e;rw[b]at c;simp only[lH,nL]at c;exact g c.2.1
theorem Wv.own{w d:Y}(h:Wv base w d){k n:Nat}(c:Ab w b e k s n xs)(j:e≠2):Ab d b e k s n xs:=by
 refine⟨c.1,?_⟩;rcases c.2 with i|⟨g,cap,a,f,l,m,p⟩
 . exact .inl i
 exact .inr ⟨g,cap,a,f,l,h.ie g a e m j,p⟩
theorem Cl.put{w k:Y}{A B:List (J×List Int)}{c c':List Int}(h:Cl w base (A++(v,c)::B))(q:c'.length= ↑c)(r:Ab k base 2 1 v c (Ad As c'))(m:w.grownBy k v.ownBlock):Cl k base (A++(v,c')::B):=by
 obtain⟨t,u,j⟩:=nw.1 h.sep;obtain⟨n,z⟩:=mj.1 u;refine⟨λx d=> ?_,nw.2 ⟨t,mj.2 ⟨λy s=>n y s,z⟩, λa l b f=> ?_⟩⟩
 . rcases lT.1 d with d|d
   . exact Dz (h.own x (lT.2 (.inl d))) m (λg i e=>j x d (v,c) sP g i e.symm)
   rcases lw.1 d with rfl|d
   . simp only[];rw[q];exact r
   exact Dz (h.own x (lT.2 (.inr (mX _ d)))) m (λg i e=>n x d g e.symm i)
 rcases lw.1 f with rfl|f
 . exact λg p=>j a l (v,c) sP g p
 exact j a l b (mX _ f)
structure DB(R:Nat->Prop)(u u':Y):Prop where
 os:u'.os=u.os
 tape:u'.tape=u.tape
 output:u'.output=u.output
 size:(u:Nat)<= ↑u'
 block:∀k,k< ↑u->¬R k->u'.heap[k]?=u.heap[k]?
theorem DB.of{u a:Y}(h:Ah u u a):DB R u a:=⟨h.os,h.tape,h.output,h.size, λk b _=>h.block k b⟩
theorem DB.refl(R:Nat->Prop)(u:Y):DB R u u:=⟨rfl,rfl,rfl,Nat.le_refl _, λ_ _ _=>rfl⟩
theorem DB.trans{g:Nat->Prop}{a b c:Y}(h:DB R a b)(d:DB g b c)(j:∀k,k< ↑a->g k->R k):DB R a c:=⟨d.os.trans h.os,d.tape.trans h.tape,d.output.trans h.output,lQ h.size d.size, λk f i=>(d.block k (mT f h.size) (λe=>i (j k f e))).trans (h.block k f i)⟩
theorem DB.below{a b:Y}(h:DB R a b)(e:B<= ↑a)(c:∀k,k<B->¬R k):Ah B a b:=⟨h.os,h.tape,h.output,h.size, λk d=>h.block k oM (c k d)⟩
theorem DB.ie{a b:Y}(h:DB R a b){ty:Aj}(d:AA a g c ty)(e:¬R g):AA b g c ty:=by unfold AA at*;rw[h.block g (lK.1 d).1 e];exact d
theorem DB.setCell{a b:Y}(h:DB R a b){ad:Addr}(c:R ad.block\/ ↑a<=ad.block)(x:J):DB R a (b.setCell ad x):=by
 refine⟨h.os,h.tape,h.output,by rw[mc];exact h.size, λk f d=> ?_⟩;have g:k≠ad.block:= λe=>by
  rcases c with c|c
  . exact d (e▸c)
  omega
 rw[Below.heap_setCell _ _ _ _ g];exact h.block k f d
theorem DB.mono{c:Nat->Prop}{a b:Y}(h:DB R a b)(f:∀k,k< ↑a->R k->c k):DB c a b:=⟨h.os,h.tape,h.output,h.size, λk d g=>h.block k d (λe=>g (f k d e))⟩
theorem DB.grown{a b c:Y}(h:DB R a b){r:Option Nat}(d:b.grownBy c r)(i:∀k,k< ↑a->K k=r->R k):DB R a c:=⟨d.os.trans h.os,d.tape.trans h.tape,d.output.trans h.output,lQ h.size d.size, λk f g=>(d.block k (mT f h.size) (λe=>g (i k f e))).trans (h.block k f g)⟩
theorem DB.own{u d:Y}(l:DB R u d){k n:Nat}(h:Ab u B e k s n xs)(m:∀b,s.ownBlock=K b->¬R b):Ab d B e k s n xs:=by
 refine⟨h.1,?_⟩;rcases h.2 with i|⟨g,cap,f,a,j,c,p⟩
 . exact .inl i
 refine .inr ⟨g,cap,f,a,j,?_,p⟩;rw[l.block g (lK.1 c).1 (m g (by rw[a];rfl))];exact c
theorem DB.on{a b c:Y}(h:DB R a b)(d:Ah b b c):DB R a c:=h.trans (DB.of (R:=R) d) (λ_ _ e=>e)
theorem Im(w:Y)(a:Array J)(t:Aj):(Ac w (Ak a t)).heap[w.heap.size]?=K (Ak a t (0,0)):=pH
theorem CF(s:ByteArray)(c f:Int)(w:Y):(Instr.field 125 (Am #[.string s,c,f]) 2).run Ap w=.ok f w:=kR
theorem Hr{w:Y}{fs:List MF}{q:Nat}{f:MF}(h:JU w s fs)(b:fs[q]?=K f):∃gk ok ck,s=Z (K ⟨gk,ok,M⟩) fs ck/\∃g:VF,DF w g f/\w ⟨gk,ok+q*4,M⟩=K g.p/\w ⟨gk,ok+q*4+1,M⟩=K ↑f.gV/\w ⟨gk,ok+q*4+2,M⟩=K g.l/\w ⟨gk,ok+q*4+3,M⟩=K g.c:=by
 obtain⟨xs,i,j,k⟩:=h;have n:=(i8.1 b).1;rcases j.2 with⟨e,_⟩|⟨gk,ok,ck,e,d⟩
 . omega
 obtain⟨x,a,m⟩:∃x,xs[q]?=K x/\x.1=f:=by
  rw[<-i,mE]at b;cases a:xs[q]? with
  |none=>rw[a]at b;cases b
  |some x=>rw[a]at b;exact⟨x,rfl,lP b⟩
 subst m;exact⟨gk,ok,ck,e,x.2,k x (lA a),Rd.elem Az d q x a 0 _ rfl,Rd.elem Az d q x a 1 _ rfl,Rd.elem Az d q x a 2 _ rfl,Rd.elem Az d q x a 3 _ rfl⟩
theorem NC{w:Y}{is:List MI}{q:Nat}{x:MI}(h:Rd w 4 s is (Ad MI.cells is))(d:is[q]?=K x):∃gk ok ck,s=Z (K ⟨gk,ok,M⟩) is ck/\w ⟨gk,ok+q*4,M⟩=K ↑x.op/\w ⟨gk,ok+q*4+1,M⟩=K ↑x.a/\w ⟨gk,ok+q*4+2,M⟩=K ↑x.b/\w ⟨gk,ok+q*4+3,M⟩=K ↑x.c:=by
 have g:=(i8.1 d).1;rcases h.2 with⟨e,_⟩|⟨gk,ok,ck,e,f⟩
 . omega
 exact⟨gk,ok,ck,e,Rd.elem MI.dr f q x d 0 _ rfl,Rd.elem MI.dr f q x d 1 _ rfl,Rd.elem MI.dr f q x d 2 _ rfl,Rd.elem MI.dr f q x d 3 _ rfl⟩
def BQ(p:MP)(r c:Int):Int:=if r<0\/2<r\/c<0 then 0 else(p.aC.getD r.toNat []).getD c.toNat 0
theorem FD{p:MP}{r c:Int}(h:r<0\/2<r\/c<0):BQ p r c=0:=lZ h
theorem JZ{p:MP}{r c:Nat}(h:r<=2){l:List Int}(a:p.aC[r]?=K l):BQ p r c=l.getD c 0:=by
 unfold BQ;have e:p.aC.getD r []=l:=by rw[lN,a];rfl
 rw[lS oM,lD,lD,e]
theorem Gz(h:q:=by go_enter func64,ntmps64;go_wp2;go_ret;exact⟨rfl,HB⟩):q:=h
theorem Jb(v:VP)(p:MP)(r c:Int)(w:Y)(L:p.small)(A:p.aC.length=3)(I:Dv r)(E:Dv c)(h:Dm w v p):
 Ai Ap 64 #[Am #[v.r,v.k,v.f,v.t],r,c] w λe w'=>e=Al (BQ p r c)/\Ah w w w':=by
 have T:-9223372036854775808<=r/\r<=9223372036854775807:=by simpa[Dv,Lit.wf,IntKind.min,IntKind.max,IntKind.signed,IntKind.bits]using I
 have R:-9223372036854775808<=c/\c<=9223372036854775807:=by simpa[Dv,Lit.wf,IntKind.min,IntKind.max,IntKind.signed,IntKind.bits]using E
 obtain⟨r0,r1⟩:=T;obtain⟨c0,c1⟩:=R;clear I E;obtain⟨O,vk,vf,vt⟩:=v;obtain⟨xs,B,s,H⟩:=h.aC;simp only[]at s;rw[A]at s;have N:xs.length=3:=by rw[<-A,<-B];simp
 have b:Ae (Rd w 1 O 3 (Ad BH xs)/\xs.map Prod.fst=p.aC/\(∀x∈xs,Rd w 1 x.2 x.1 (x.1.flatMap As))/\(∀l∈p.aC,l.length<=1048576)/\xs.length=3):=⟨s,B,H,L.region,N⟩
 clear s B H N L h A;have HB:Ae _:=(Xt.of w 37 #[O,vk,vf,vt] rfl).ej;by_cases U:r<0
 . rw[FD (.inl U)];exact Gz
 by_cases V:2<r
 . rw[FD (.inr (.inl V))];exact Gz
 by_cases W:c<0
 . rw[FD (.inr (.inr W))];exact Gz
 obtain⟨i,rfl⟩:=mA (show 0<=r from oM);obtain⟨j,rfl⟩:=mA (show 0<=c from oM);obtain⟨⟨l,y⟩,u⟩:∃x,xs[i]?=K x:=⟨_,an (by rw[b.2.2.2.2];omega)⟩;have q:=BF b.2.1 u;have a:=b.2.2.1 _ (lA u);have S:=b.2.2.2.1 _ (lA q);simp only[]at q a S;rw[JZ oM q];rcases b.1.2 with⟨P,_⟩|⟨g,o,cc,Q,F⟩
 . omega
 subst Q;have a0:=Rd.elem A5 F i _ u 0 _ rfl;rw[mO,lJ]at a0;simp only[]at a0;clear F u q;obtain⟨ay,cy,rfl⟩:=a.bW;have a1:=(HB.cell (g8 a0)).trans a0;by_cases X:j< ↑l
 . obtain⟨z,C⟩:∃z,l[j]?=K z:=⟨_,an X⟩;(have d:l.getD j 0=z:=by rw[lN,C];rfl);rw[d];rcases a.2 with⟨P,_⟩|⟨g2,o2,c2,D,G⟩
   . omega
   simp only[lB,mB]at D;obtain⟨rfl,rfl⟩:=D;have m:=Rd.elem Ay G j z C 0 _ rfl;rw[mO,lJ]at m;have b1:=(HB.cell (g8 m)).trans m;clear G C m a0 d;have HY:Ae _:=a;clear a;generalize l.length=n at*;exact Gz
 have d:l.getD j 0=0:=by rw[lN,lW oM];rfl
 rw[d];clear d a0 a;generalize l.length=n at*;exact Gz
theorem KX(d:Y)(base:Nat)(s:J)(rs:List (List Int))(a:Int)(w:Y)(Q:rs.length<=1048576)(D:∀r∈rs,r.length<=1048576)(U:0<=a)(V:a<=281474976710656)(h:Gm d base s rs)(F:Ci d w):
 Ai Ap 30 #[s,a] w λe R=>(∃t,e=Al (iZ t)/\a<=t/\t<=a+1048576*(rs:Int))/\Bv base d w R:=by
 obtain⟨xs,p,j,B⟩:=h;have G:xs.length=rs.length:=by rw[<-p];simp
 have H:=Av (d5 j (d5 F (d5 p (d5 B (d5 D G)))));clear F p B D G;rcases Bo j with⟨rfl,X⟩|⟨g,c,rfl⟩
 . clear j;go_enter func30,ntmps30;go_wp2;go_loopw [1,5] (λq i wr=>q=iZ a/\i=iZ 0/\wr=w) (λ_ _ _=>0)
   (case atStart=>exact⟨rfl,rfl,rfl⟩);obtain⟨rfl,rfl,rfl⟩:=hrel;go_wp2;go_ret;exact⟨⟨a,rfl,oM,oM⟩,Bv.refl _ _ _⟩
 clear j;generalize A:rs.length=n at Q H⊢;have T:=Av A;clear A;go_enter func30,ntmps30;go_wp2;go_loopw [1,5] (λq i wr=>∃(k:Nat) (b:Int),k<=n/\q=iZ b/\a<=b/\b<=a+1048576*k/\i=iZ k/\Ae (Bv base d w wr)) (λ_ i _=>n-(intOf i).toNat)
 case atStart=>exact⟨0,a,oM,rfl,oM,oM,rfl,Bv.refl _ _ _⟩
 obtain⟨k,b,W,rfl,q0,q1,rfl,f⟩:=hrel;by_cases P:k<n
 . obtain⟨⟨r,v⟩,m⟩:∃x,xs[k]?=K x:=⟨_,an (by rw[H.2.2.2.2.2];exact P)⟩;have z:=BF H.2.2.1 m;have E:=H.2.2.2.2.1 _ (lA z);have l:=H.2.2.2.1 _ (lA m);simp only[]at E l;have f0:=BU BH 1 A5 xs k 0 _ m oM;rw[mO,lJ]at f0;obtain⟨y0,c0,a0,S,_⟩:=Bs H.1 (H.2.1.trans f.shaped) f0;obtain⟨L,N,rfl⟩:=AF l;obtain rfl:=DT.slice a0;have y:=Av (d5 l E);clear z l f0 m a0;go_wp2_with fail;refine(FN d base (Z L r N) r b _ y.2 oM oM y.1 (H.2.1.trans f.shaped)).mono ?_;rintro e u ⟨rfl,C⟩;have I:=Av (f.trans C);clear C c0 S;go_wp2;go_roundw;(case rel=>exact⟨k+1,b+(r:Int),oM,rfl,oM,oM,by go_num,I⟩);exact oI
 have O:k=n:=oM;subst O;go_wp2;go_ret;exact⟨⟨b,rfl,oM,oM⟩,f⟩
theorem Na(a:Y)(base:Nat)(s:J)(rs:List MF)(b:Int)(w:Y)(hn:rs.length<=1048576)(X:∀r∈rs,r.small)(h0:0<=b)(h1:b<=281474976710656)(h:DY a base s rs)(hs:Ci a w):
 Ai Ap 32 #[s,b] w λe w'=>(∃L,e=Al (iZ L)/\b<=L/\L<=b+6291457*(rs:Int))/\Bv base a w w':=by
 obtain⟨xs,I,C,W⟩:=h;have ah:xs.length=rs.length:=by rw[<-I];simp
 have H:=Av (d5 C (d5 hs (d5 I (d5 W (d5 X ah)))));clear hs I W X ah;rcases Bo C with⟨rfl,hz⟩|⟨g,c,rfl⟩
 . clear C;go_enter func32,ntmps32;go_wp2;go_loopw [1,5] (λq i wr=>q=iZ b/\i=iZ 0/\wr=w) (λ_ _ _=>0)
   (case atStart=>exact⟨rfl,rfl,rfl⟩);obtain⟨rfl,rfl,rfl⟩:=hrel;go_wp2;go_ret;exact⟨⟨b,rfl,oM,oM⟩,Bv.refl _ _ _⟩
 clear C;generalize V:rs.length=n at hn H⊢;have HL:=Av V;clear V;go_enter func32,ntmps32;go_wp2;go_loopw [1,5] (λq i wr=>∃(k:Nat) (d:Int),k<=n/\q=iZ d/\b<=d/\d<=b+6291457*k/\i=iZ k/\Ae (Bv base a w wr)) (λ_ i _=>n-(intOf i).toNat)
 case atStart=>exact⟨0,b,oM,rfl,oM,oM,rfl,Bv.refl _ _ _⟩
 obtain⟨k,d,hk,rfl,q0,q1,rfl,B⟩:=hrel;by_cases am:k<n
 . obtain⟨⟨r,⟨vp,vl,vc⟩⟩,l⟩:∃x,xs[k]?=K x:=⟨_,an (by rw[H.2.2.2.2.2];exact am)⟩;have R:=BF H.2.2.1 l;have ae:=H.2.2.2.2.1 _ (lA R);have v:=H.2.2.2.1 _ (lA l);simp only[]at ae;obtain⟨P,Q,U⟩:=AF v.1;obtain⟨al,cl,T⟩:=AF v.2.1;obtain⟨O,cc,S⟩:=AF v.2.2;simp only[]at U T S;subst U T S;have f0:=BU BR 4 Az xs k 0 _ l oM;have f1:=BU BR 4 Az xs k 1 _ l oM;have f2:=BU BR 4 Az xs k 2 _ l oM;have f3:=BU BR 4 Az xs k 3 _ l oM;rw[lJ]at f0;have G:=Av v;have A:Ae (∀{u:Y},Ci a u->u.cell? ⟨g,k*4,M⟩=K (Z P r.gU Q)/\u.cell? ⟨g,k*4+2,M⟩=K (Z al r.gW cl)/\u.cell? ⟨g,k*4+3,M⟩=K (Z O r.bO cc)/\(∃y,u.cell? ⟨g,k*4+1,M⟩=K y)/\u.frozen? ⟨g,k*4+1,M⟩=false/\∀z,Bv base a u (Aa u ⟨g,k*4+1,M⟩ (iZ z))):= λD=>by obtain⟨y0,c0,a0,_,_⟩:=Bs H.1 D f0;obtain⟨m,c1,a1,p,t⟩:=Bs H.1 D f1;obtain⟨y2,c2,a2,_,_⟩:=Bs H.1 D f2;obtain⟨y3,c3,a3,_,_⟩:=Bs H.1 D f3;obtain rfl:=DT.slice a0;obtain rfl:=DT.slice a2;obtain rfl:=DT.slice a3;exact⟨c0,c2,c3,⟨m,c1⟩,p, λz=>t base a.heap.size _ lR lR (.inr ⟨Af,r.gV,z,rfl,rfl⟩)⟩
   obtain⟨s1,s2,s3⟩:=ae;clear R v f0 f1 f2 f3 l;have f:=H.2.1.trans B.shaped;obtain⟨c0,c2,c3,⟨m,c1⟩,p,_⟩:=A.o f;clear f;go_wp2_with fail;refine(FN a base (Z P r.gU Q) r.gU d _ s1 oM oM G.1 (H.2.1.trans B.shaped)).mono ?_;rintro e u1 ⟨rfl,j⟩;have N:=Av (B.trans j);clear j c0 c1 c2 c3 p m;have f:=H.2.1.trans N.shaped;obtain⟨c0,c2,c3,⟨m,c1⟩,p,t⟩:=A.o f;have E:Ae (Bv base a w (Aa u1 ⟨g,k*4+1,M⟩ (Ag Af (d+(r.gU:Int))))):=N.trans (t _);obtain⟨_,t2,_⟩:=A.o (H.2.1.trans E.shaped);clear t f;go_wp2_with fail;refine(FN a base (Z al r.gW cl) r.gW (d+(r.gU:Int)+1) _ s2 oM oM G.2.1 (H.2.1.trans E.shaped)).mono ?_;rintro e u2 ⟨rfl,j⟩;have F:=Av (E.trans j);clear j c0 c1 c2 c3 p m t2;have f:=H.2.1.trans F.shaped;obtain⟨c0,c2,c3,⟨m,c1⟩,p,t⟩:=A.o f;clear t f;go_wp2_with fail;refine(L7 a base (Z O r.bO cc) r.bO (d+(r.gU:Int)+1+(r.gW:Int)) _ s3 oM oM G.2.2 (H.2.1.trans F.shaped)).mono ?_;rintro e u3 ⟨rfl,j⟩;have HN:Ae (Bv base a w u3):=F.trans j;clear j c0 c1 c2 c3 p m;go_wp2;go_roundw;(case rel=>exact⟨k+1,d+(r.gU:Int)+1+(r.gW:Int)+4*(r.bO:Int),oM,rfl,oM,oM,by go_num,HN⟩);exact oI
 have aj:k=n:=oM;subst aj;go_wp2;go_ret;exact⟨⟨d,rfl,oM,oM⟩,B⟩
theorem KY(a:Y)(base:Nat)(v:VP)(p:MP)(w:Y)(D:p.small)(h:Jn a base v p)(C:Ah a a w):
 Ai Ap 10 #[Am #[v.r,v.k,v.f,v.t],Ag Af 1] w λe T=>(∃d:Int,e=Al d/\0<=d/\d<=17592186044416)/\EQ base a w T:=by
 have H:=Av (d5 D h);clear D h;have b:Ab (Ac w (Ak #[v.r,v.k,v.f,v.t] 37)) w 37 4 (sG w 1 1) 1 [v.r,v.k,v.f,v.t]:=nT (base:=w) (e:=37) (size:=4) w #[v.r,v.k,v.f,v.t] 1 lR oX sP;have g:Ae (Ci a (Ac w (Ak #[v.r,v.k,v.f,v.t] 37))):=(Ci.iX C).trans (Ci.iX ((lu _ _).alloc lR _));have N:=C.size;have B:Ae (Ah w w (Ac w (Ak #[v.r,v.k,v.f,v.t] 37))):=(lu _ _).alloc lR _;go_enter func10,ntmps10;go_wp2_with fail;generalize Ac w (Ak #[v.r,v.k,v.f,v.t] 37)=A at b g B⊢;refine(KX a base v.r p.aC 1 _ H.1.aC H.1.region oM oM H.2.aC g).mono ?_;rintro e u1 ⟨⟨d,rfl,V,W⟩,E⟩;have s:=Av E;have U:=H.1.aC;have O:=H.1.dk;have P:=H.1.aD;have Q:=H.1.e8;have keep:∀{u:Y},Bv base a A u->∀(i:Nat) x,A ⟨w,i,M⟩=K x->u ⟨w,i,M⟩=K x:= λc i x R=>by have:=c.o w (.inr N);unfold World.cell? at*;rw[this];exact R
 have q:Ae (∀{u:Y},Bv base a A u->u w=K v.r/\u ⟨w,1,M⟩=K v.k/\u ⟨w,2,M⟩=K v.f/\u ⟨w,3,M⟩=K v.t):= λc=>⟨keep c 0 _ (b.cellAt 0 oM),keep c 1 _ (b.cellAt 1 oM),keep c 2 _ (b.cellAt 2 oM),keep c 3 _ (b.cellAt 3 oM)⟩
 clear E keep b;obtain⟨j,l,m,n⟩:=q.o s;go_wp2_with fail;refine(L5 a base v.k p.dk d _ O oM oM H.2.dk (g.trans s.shaped)).mono ?_;rintro e u2 ⟨rfl,F⟩;have y:=Av (s.trans F);clear F j l m n;obtain⟨j,l,m,n⟩:=q.o y;go_wp2_with fail;refine(Na a base v.f p.aD (d+2*(p.dk:Int)) _ P H.1.func oM oM H.2.aD (g.trans y.shaped)).mono ?_;rintro e u3 ⟨⟨S,rfl,X,ae⟩,G⟩;have z:=Av (y.trans G);clear G j l m n;obtain⟨j,l,m,n⟩:=q.o z;go_wp2_with fail;refine(M9 a base v.t p.e8 S _ Q oM oM H.2.e8 (g.trans z.shaped)).mono ?_;rintro e u4 ⟨rfl,I⟩;have L:=Av (z.trans I);clear I j l m n;go_wp2;go_ret;exact⟨⟨_,rfl,oM,oM⟩,EQ.of B lR L⟩
structure MB where
 gZ:Int
 last:Int
 next:List Int
def B4(x:MB×J):List J:=[x.1.gZ,x.1.last,x.2]
theorem A4(x:MB×J):(B4 x).length=3:=rfl
theorem XE:(Tryz.prog.info? 90).map (λi=>(i.zero,i.size,i.bytes))=K (K (Am #[Ag Af 0,Ag Af 0,Z M 0 0]),3,40):=kR
def DK(F:List (MB×J)):List (J×List Int):=F.map λx=>(x.2,x.1.next)
def nextB(k:Int)(x:MB×J):Int:=k+1+1+(x.1.next:Int)
theorem Bt{w:Y}{base g k n:Nat}(h:Ab w base e k s n xs)(f:w.heap[g]?=K (Obj.cells c t fr))(i:e≠t):∀j,s.ownBlock=K j->j≠g:=by
 intro j b d;subst d;rcases h.2 with⟨rfl,_⟩|⟨p,l,m,rfl,_,a,_⟩
 . cases b
 simp only[Value.ownBlock,lH]at b;subst b;rw[f]at a;simp only[lH,nL]at a;exact i a.2.1.symm
theorem Cl.set{w:Y}{L:List (J×List Int)}(h:Cl w base L)(d:w.heap[g]?=K (Obj.cells c t fr))(f:2≠t)(i:Nat)(x:J):Cl (Aa w ⟨g,i,M⟩ x) base L:=⟨λy b=>lI (h.own y b) (a:=⟨g,i,M⟩) (λe=>Bt (h.own y b) d f g e rfl) x,h.sep⟩
structure Wb(base:Nat)(w w':Y):Prop where
 ej:Ah base w w'
 ie:∀(k:Nat) (cur:Array J) (t:Aj),w.heap[k]?=K (Obj.cells cur t (0,0))->t≠2->t≠90->w'.heap[k]?=K (Obj.cells cur t (0,0))
theorem Wb.refl(base:Nat)(w:Y):Wb base w w:=⟨lu _ _, λ_ _ _ h _ _=>h⟩
theorem Wb.trans{u v w:Y}(h:Wb base u v)(b:Wb base v w):Wb base u w:=⟨h.ej.trans b.ej, λk a t e c d=>b.ie k a t (h.ie k a t e c d) c d⟩
theorem Wv.wb{w a:Y}(h:Wv base w a):Wb base w a:=⟨h.ej, λk b t d c _=>h.ie k b t d c⟩
theorem AD{w:Y}{base g k n c:Nat}(h:Ab w base e k (Z g n c) n xs):base<=g/\∃a,w.heap[g]?=K (Obj.cells a e (0,0)):=by
 rcases h.2 with⟨b,_⟩|⟨j,i,a,b,d,f,_⟩
 . cases b
 cases b
 exact⟨d,a,f⟩
structure CP(f:MF):Prop where
 par:f.gU.length<=8
 loc:f.gU.length+ ↑f.gW<=32
 pt:f.gU.all Fo=true
 lt:f.gW.all Fo=true
 ik:f.gV=0\/Fo f.gV=true
 jq:¬f.bO.length=0
 kf:f.bO.length<=1024
def RD(f:MF):Prop:=f.gU.length=0/\f.gV=0
def Ce(f:MF)(a:Bool):Prop:=CP f/\(a=true->RD f)
theorem R5(v:VF)(f:MF)(g:Bool)(w:Y)(F:f.small)(h:DF w v f):
 Ai Ap 40 #[Am #[v.p,f.gV,v.l,v.c],g] w λe T=>AM e (Ce f g)/\Ah w w T:=by
 have n:Ae (DF w v f/\f.small):=⟨h,F⟩
 obtain⟨H,c1,z⟩:=h.1.bW;obtain⟨I,c2,A⟩:=h.2.1.bW;obtain⟨L,c3,B⟩:=h.2.2.bW;obtain⟨vp,vl,vc⟩:=v;obtain⟨s1,s2,s3⟩:=F;simp only[]at z A B;subst z A B;clear h;have d:Ae (Ah w w (Ac w (Ak #[Z H f.gU c1,f.gV,Z I f.gW c2,Z L f.bO c3] 76))):=Aq _ _;by_cases N:8<f.gU.length
 . (have b:Ae (¬(Ce f g)):= λe=>absurd e.1.par oM);clear n;generalize f.gU.length=k at*;go_enter func40,ntmps40;go_wp2;go_ret;exact⟨.no b,d⟩
 by_cases O:32<f.gU.length+ ↑f.gW
 . (have b:Ae (¬(Ce f g)):= λe=>absurd e.1.loc oM);clear n;generalize f.gU.length=k at*;generalize f.gW.length=U at*;go_enter func40,ntmps40;go_wp2;go_ret;exact⟨.no b,d⟩
 have V:¬(8:Int)<(f.gU:Int):=oM;have W:¬(32:Int)<(f.gU:Int)+(f.gW:Int):=oM;have q:Ae (f.gU.length<=8/\f.gU.length+ ↑f.gW<=32):=⟨oM,oM⟩
 go_enter func40,ntmps40;go_wp2_with fail;refine(Hv _ f.gU _ n.2.1 (n.1.1.a7 d lR)).mono ?_;rintro e u ⟨rfl,rfl⟩;cases t1:f.gU.all Fo
 . (have b:Ae (¬(Ce f g)):= λe=>by have:=e.1.pt;simp[t1]at this);clear t1;go_wp2;go_ret;exact⟨.no b,d⟩
 have t:=Av t1;clear t1;go_wp2_with fail;refine(Hv _ f.gW _ n.2.2.1 (n.1.2.1.a7 d lR)).mono ?_;rintro e u ⟨rfl,rfl⟩;cases t1:f.gW.all Fo
 . (have b:Ae (¬(Ce f g)):= λe=>by have:=e.1.lt;simp[t1]at this);clear t1;go_wp2;go_ret;exact⟨.no b,d⟩
 have x:=Av t1;clear t1;generalize E:f.gV=R at*;generalize C:f.gU.length=k at*;generalize D:f.bO.length=i at*;have a:Ae (f.gV=R/\f.gU.length=k/\f.bO.length=i):=⟨E,C,D⟩
 clear E C D N O;by_cases s:R=0
 . subst s;by_cases j:i=0
   . subst j;(have b:Ae (¬(Ce f g)):= λe=>e.1.jq a.2.2);go_wp2;go_ret;exact⟨.no b,d⟩
   (have P:((i:Int)==0)=false:=by simpa using j);by_cases Q:1024<i
   . have y:(1024:Int)<(i:Int):=oM;(have b:Ae (¬(Ce f g)):= λe=>absurd e.1.kf (by rw[a.2.2];omega));go_wp2;go_ret;exact⟨.no b,d⟩
   have y:¬(1024:Int)<(i:Int):=oM;cases g
   . have r:Ae (Ce f false):=⟨⟨by rw[a.2.1];exact q.1,by rw[a.2.1];exact q.2,t,x,.inl a.1,by rw[a.2.2];exact j,by rw[a.2.2];omega⟩, λh=>by cases h⟩;go_wp2;go_ret;exact⟨.iu r,d⟩
   by_cases m:k=0
   . subst m;have r:Ae (Ce f true):=⟨⟨by rw[a.2.1];exact q.1,by rw[a.2.1];exact q.2,t,x,.inl a.1,by rw[a.2.2];exact j,by rw[a.2.2];omega⟩, λ_=>⟨a.2.1,a.1⟩⟩;go_wp2;go_ret;exact⟨.iu r,d⟩
   (have S:((k:Int)==0)=false:=by simpa using m);(have b:Ae (¬(Ce f true)):= λe=>m (by rw[<-a.2.1];exact(e.2 rfl).1));go_wp2;go_ret;exact⟨.no b,d⟩
 have X:(R==0)=false:=by simpa using s
 go_wp2_with fail;refine(Ei R _).mono ?_;rintro e u ⟨rfl,rfl⟩;cases t1:Fo R
 . (have b:Ae (¬(Ce f g)):= λe=>by have:=e.1.ik;rw[a.1]at this;simp[s,t1]at this);go_wp2;go_ret;exact⟨.no b,d⟩
 have G:=Av t1;clear t1;by_cases j:i=0
 . subst j;(have b:Ae (¬(Ce f g)):= λe=>e.1.jq a.2.2);go_wp2;go_ret;exact⟨.no b,d⟩
 have P:((i:Int)==0)=false:=by simpa using j
 by_cases Q:1024<i
 . have y:(1024:Int)<(i:Int):=oM;(have b:Ae (¬(Ce f g)):= λe=>absurd e.1.kf (by rw[a.2.2];omega));go_wp2;go_ret;exact⟨.no b,d⟩
 have y:¬(1024:Int)<(i:Int):=oM;cases g
 . have r:Ae (Ce f false):=⟨⟨by rw[a.2.1];exact q.1,by rw[a.2.1];exact q.2,t,x,.inr (by rw[a.1];exact G),by rw[a.2.2];exact j,by rw[a.2.2];omega⟩, λh=>by cases h⟩;go_wp2;go_ret;exact⟨.iu r,d⟩
 by_cases m:k=0
 . subst m;(have b:Ae (¬(Ce f true)):= λe=>s (by rw[<-a.1];exact(e.2 rfl).2));go_wp2;go_ret;exact⟨.no b,d⟩
 have S:((k:Int)==0)=false:=by simpa using m
 have b:Ae (¬(Ce f true)):= λe=>m (by rw[<-a.2.1];exact(e.2 rfl).1)
 go_wp2;go_ret;exact⟨.no b,d⟩
end Go.Proofs.YtadcneiiokbofaaGreat
