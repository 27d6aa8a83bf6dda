import Derived.Test.YtkgohaigebcgoaaGreatDoorLo3
import Derived.WalkSpells
import Derived.Deep.Light
import Derived.Maps.OwnSet
import Derived.Shelf.SlGeneric
import Derived.Shelf.SortG.Plain
import Derived.Shelf.SortG.SortNone
import Derived.Shelf.SlicesG.SearchI
import Derived.Shelf.SlicesG.Turned
import Derived.Ground.SlgnProg
import Derived.Sort.OwnSortedInts
namespace Go.Proofs
open Go.Shelf
def Tryz.lSort_ren:Go.Shelf.Ren:=⟨λ |53=>64|64=>138|63=>137|78=>179|79=>180|70=>171|71=>172|72=>173|73=>174|74=>175|75=>176|59=>132|76=>177|77=>178|88=>196|89=>197|90=>198|91=>199|92=>200|68=>168|96=>208|n=>n, λ |22=>27|23=>2|3=>3|51=>216|0=>0|67=>29|69=>267|4=>4|61=>272|60=>271|44=>159|5=>5|9=>9|75=>285|79=>289|83=>297|84=>298|n=>n, λ |n=>n⟩
theorem Tryz.lSort:Go.Proofs.SlLaysN.n53 Tryz.prog Tryz.lSort_ren:={
 mixed:=by kernel_rfl
 f53:=⟨Tryz.f64.name,by decide,Tryz.func64.trans (congrArg some (by kernel_rfl))⟩
 f59:=⟨Tryz.f132.name,by decide,Tryz.func132.trans (congrArg some (by kernel_rfl))⟩
 f63:=⟨Tryz.f137.name,by decide,Tryz.func137.trans (congrArg some (by kernel_rfl))⟩
 f64:=Tryz.func138.trans (congrArg some (by kernel_rfl))
 f68:=⟨Tryz.f168.name,by decide,Tryz.func168.trans (congrArg some (by kernel_rfl))⟩
 f70:=⟨Tryz.f171.name,by decide,Tryz.func171.trans (congrArg some (by kernel_rfl))⟩
 f71:=⟨Tryz.f172.name,by decide,Tryz.func172.trans (congrArg some (by kernel_rfl))⟩
 f72:=⟨Tryz.f173.name,by decide,Tryz.func173.trans (congrArg some (by kernel_rfl))⟩
 f73:=⟨Tryz.f174.name,by decide,Tryz.func174.trans (congrArg some (by kernel_rfl))⟩
 f74:=⟨Tryz.f175.name,by decide,Tryz.func175.trans (congrArg some (by kernel_rfl))⟩
 f75:=⟨Tryz.f176.name,by decide,Tryz.func176.trans (congrArg some (by kernel_rfl))⟩
 f76:=⟨Tryz.f177.name,by decide,Tryz.func177.trans (congrArg some (by kernel_rfl))⟩
 f77:=⟨Tryz.f178.name,by decide,Tryz.func178.trans (congrArg some (by kernel_rfl))⟩
 f78:=Tryz.func179.trans (congrArg some (by kernel_rfl))
 f79:=Tryz.func180.trans (congrArg some (by kernel_rfl))
 f88:=⟨Tryz.f196.name,by decide,Tryz.func196.trans (congrArg some (by kernel_rfl))⟩
 f89:=Tryz.func197.trans (congrArg some (by kernel_rfl))
 f90:=Tryz.func198.trans (congrArg some (by kernel_rfl))
 f91:=⟨Tryz.f199.name,by decide,Tryz.func199.trans (congrArg some (by kernel_rfl))⟩
 f92:=⟨Tryz.f200.name,by decide,Tryz.func200.trans (congrArg some (by kernel_rfl))⟩
 f96:=⟨Tryz.f208.name,by decide,Tryz.func208.trans (congrArg some (by kernel_rfl))⟩
 t0:=Tryz.underlying0
 a0:=Tryz.isAgg0
 z0:=Tryz.sizeOf0
 v0:=Tryz.zeroValue0
 t3:=Tryz.underlying3
 a3:=Tryz.isAgg3
 z3:=Tryz.sizeOf3
 v3:=Tryz.zeroValue3
 t4:=Tryz.underlying4
 a4:=Tryz.isAgg4
 z4:=Tryz.sizeOf4
 v4:=Tryz.zeroValue4
 t5:=Tryz.underlying5
 a5:=Tryz.isAgg5
 z5:=Tryz.sizeOf5
 v5:=Tryz.zeroValue5
 t9:=Tryz.underlying9
 a9:=Tryz.isAgg9
 z9:=Tryz.sizeOf9
 v9:=Tryz.zeroValue9
 t22:=Tryz.underlying27
 a22:=Tryz.isAgg27
 z22:=Tryz.sizeOf27
 v22:=Tryz.zeroValue27
 t23:=Tryz.underlying2
 a23:=Tryz.isAgg2
 z23:=Tryz.sizeOf2
 v23:=Tryz.zeroValue2
 t44:=Tryz.underlying159
 a44:=Tryz.isAgg159
 z44:=Tryz.sizeOf159
 v44:=Tryz.zeroValue159
 t51:=Tryz.underlying216
 a51:=Tryz.isAgg216
 z51:=Tryz.sizeOf216
 v51:=Tryz.zeroValue216
 t60:=Tryz.underlying271
 a60:=Tryz.isAgg271
 z60:=Tryz.sizeOf271
 v60:=Tryz.zeroValue271
 t61:=Tryz.underlying272
 a61:=Tryz.isAgg272
 z61:=Tryz.sizeOf272
 v61:=Tryz.zeroValue272
 t67:=Tryz.underlying29
 a67:=Tryz.isAgg29
 z67:=Tryz.sizeOf29
 v67:=Tryz.zeroValue29
 t69:=Tryz.underlying267
 a69:=Tryz.isAgg267
 z69:=Tryz.sizeOf267
 v69:=Tryz.zeroValue267
 t75:=Tryz.underlying285
 a75:=Tryz.isAgg285
 z75:=Tryz.sizeOf285
 v75:=Tryz.zeroValue285
 t79:=Tryz.underlying289
 a79:=Tryz.isAgg289
 z79:=Tryz.sizeOf289
 v79:=Tryz.zeroValue289
 t83:=Tryz.underlying297
 a83:=Tryz.isAgg297
 z83:=Tryz.sizeOf297
 v83:=Tryz.zeroValue297
 t84:=Tryz.underlying298
 a84:=Tryz.isAgg298
 z84:=Tryz.sizeOf298
 v84:=Tryz.zeroValue298}
def Tryz.lSearch_ren:Go.Shelf.Ren:=⟨λ |49=>56|59=>132|60=>133|68=>168|n=>n, λ |22=>27|23=>2|3=>3|4=>4|51=>216|0=>0|n=>n, λ |n=>n⟩
theorem Tryz.lSearch:Go.Proofs.SlLaysN.n49 Tryz.prog Tryz.lSearch_ren:={
 mixed:=by kernel_rfl
 f49:=⟨Tryz.f56.name,by decide,Tryz.func56.trans (congrArg some (by kernel_rfl))⟩
 f59:=⟨Tryz.f132.name,by decide,Tryz.func132.trans (congrArg some (by kernel_rfl))⟩
 f60:=⟨Tryz.f133.name,by decide,Tryz.func133.trans (congrArg some (by kernel_rfl))⟩
 f68:=⟨Tryz.f168.name,by decide,Tryz.func168.trans (congrArg some (by kernel_rfl))⟩
 t0:=Tryz.underlying0
 a0:=Tryz.isAgg0
 z0:=Tryz.sizeOf0
 v0:=Tryz.zeroValue0
 t3:=Tryz.underlying3
 a3:=Tryz.isAgg3
 z3:=Tryz.sizeOf3
 v3:=Tryz.zeroValue3
 t4:=Tryz.underlying4
 a4:=Tryz.isAgg4
 z4:=Tryz.sizeOf4
 v4:=Tryz.zeroValue4
 t22:=Tryz.underlying27
 a22:=Tryz.isAgg27
 z22:=Tryz.sizeOf27
 v22:=Tryz.zeroValue27
 t23:=Tryz.underlying2
 a23:=Tryz.isAgg2
 z23:=Tryz.sizeOf2
 v23:=Tryz.zeroValue2
 t51:=Tryz.underlying216
 a51:=Tryz.isAgg216
 z51:=Tryz.sizeOf216
 v51:=Tryz.zeroValue216}
def Tryz.lContains_ren:Go.Shelf.Ren:=⟨λ |31=>69|29=>139|n=>n, λ |22=>27|23=>2|4=>4|3=>3|0=>0|n=>n, λ |n=>n⟩
theorem Tryz.lContains:Go.Proofs.SlLaysN.n31 Tryz.prog Tryz.lContains_ren:={
 mixed:=by kernel_rfl
 f29:=⟨Tryz.f139.name,by decide,Tryz.func139.trans (congrArg some (by kernel_rfl))⟩
 f31:=⟨Tryz.f69.name,by decide,Tryz.func69.trans (congrArg some (by kernel_rfl))⟩
 t0:=Tryz.underlying0
 a0:=Tryz.isAgg0
 z0:=Tryz.sizeOf0
 v0:=Tryz.zeroValue0
 t3:=Tryz.underlying3
 a3:=Tryz.isAgg3
 z3:=Tryz.sizeOf3
 v3:=Tryz.zeroValue3
 t4:=Tryz.underlying4
 a4:=Tryz.isAgg4
 z4:=Tryz.sizeOf4
 v4:=Tryz.zeroValue4
 t22:=Tryz.underlying27
 a22:=Tryz.isAgg27
 z22:=Tryz.sizeOf27
 v22:=Tryz.zeroValue27
 t23:=Tryz.underlying2
 a23:=Tryz.isAgg2
 z23:=Tryz.sizeOf2
 v23:=Tryz.zeroValue2}
end Go.Proofs
namespace Go.Proofs.YtkgohaigebcgoaaGreatDoor
open Go.ChangeShapes Go.WideShapes Go.ChangeAt Go.RowKit Go.Proofs.Tryz
set_option linter.unusedVariables false
open Option renaming some → K
open Go.Value renaming slice → Z,agg → An,int → Ag
open Go renaming Value → J,World → Y,Calls → Ai,TypeId → Aj
open Go.RowKit renaming Hid → Ae,Below → Ah
open Go.Obj renaming cells → Ak
open Go.Ending renaming returned → Am
open Go.Proofs.Tryz renaming prog → Aq
open Go.World renaming alloc → Ac,ownsRow → Ab
open Go.IntKind renaming i64 → Af
open List renaming flatMap → Ad
set_option maxHeartbeats 2000000
set_option maxRecDepth 100000
variable {q:Prop}{z:Int}{O:List Nat}
def FX(p:MP)(c:MT):Prop:=∃f,p.aB[c.func.toNat]?=K f/\0<=c.func/\0<=c.head/\c.head<f.aU.length/\AJ f c.eI=3
def NR(d c:MT):Prop:=d.func<c.func\/d.func=c.func/\d.head<c.head
def IL(p:MP)(cs:List MT)(j:Nat):Prop:=∀c,cs[j]?=K c->FX p c/\∀i d,i+1=j->cs[i]?=K d->NR d c
def CX(p:MP):Prop:=p.bO.length<=64/\∀j,j< ↑p.bO->IL p p.bO j
theorem LR{p:MP}{cs:List MT}{k:Nat}(a:IL p cs k)(h:∀j,j<k->IL p cs j):∀j,j<k+1->IL p cs j:=by
 intro j b;by_cases e:j=k
 . subst e;exact a
 exact h j oM
theorem IC(r s t x3:J)(g:VF)(f:MF)(n:Nat)(z:Int)(w:Y)(E:f.small)(h:FH w g f)(i:(f.aD++f.a7)[n]?=K z):
 Ai Aq 154 #[An #[r,s,t,x3,g.p,f.cu,g.l,g.c],n] w λe I=>e=Am z/\Ah w w I:=by
 obtain⟨v,c1,b⟩:=h.1.aP;obtain⟨x,c2,m⟩:=h.2.1.aP;obtain⟨Q,vl,H⟩:=g;obtain⟨s1,s2,P⟩:=E;simp only[]at b m;subst b m;have k:Ae (Ah w w (Ac w (Ak #[r,s,t,x3,Z v f.aD c1,f.cu,Z x f.a7 c2,H] 109))):=Al _ _;by_cases q:n< ↑f.aD
 . rw[kL q]at i;have D:(n:Int)<(f.aD:Int):=oM;rcases h.1.2 with⟨y,_⟩|⟨gr,B,A,b,j⟩
   . omega
   simp only[i8,kW]at b;obtain⟨rfl,rfl⟩:=b;have a:=Rd.elem AE j n z i 0 _ rfl;rw[lJ,jV]at a;have F:=(k.cell (i7 a)).trans a;have G:¬gr=w.heap.size:=lL (i7 a);clear h i j;generalize f.aD.length=N at*;generalize f.a7.length=u at*;go_enter func154,ntmps154;go_wp2;go_ret;exact⟨rfl,k⟩
 rw[jX oM]at i;have C:=(f7.1 i).1;obtain⟨d,rfl⟩:∃d,n= ↑f.aD+d:=⟨n-↑f.aD,oM⟩
 rw[lO]at i;have D:¬((↑f.aD+d:Nat):Int)<(f.aD:Int):=oM
 rcases h.2.1.2 with⟨y,_⟩|⟨gr,B,A,b,j⟩
 . omega
 simp only[i8,kW]at b;obtain⟨rfl,rfl⟩:=b;have a:=Rd.elem AE j d z i 0 _ rfl;rw[lJ,jV]at a;have F:=(k.cell (i7 a)).trans a;have G:¬gr=w.heap.size:=lL (i7 a);have L:d<f.a7.length:=oM;clear h i j q C;generalize f.aD.length=N at*;generalize f.a7.length=u at*;have O:((N+d:Nat):Int)-(N:Int)=(d:Int):=oM;go_enter func154,ntmps154;go_wp2;go_ret;exact⟨rfl,k⟩
theorem Mi(t c s:Int)(d:Bool)(a b f:Option Addr)(g c1 h c2 i c3:Nat)(w:Y):
 Ai Aq 17 #[An #[t,d,c,s,Z a g c1,Z b h c2,Z f i c3]] w λe j=>AM e (t≠0\/d=true)/\Ah w w j:=by
 by_cases q:t=0
 . subst q;go_enter func17,ntmps17;go_wp2;go_ret;exact⟨.of sP,by first|exact jZ _ _|exact Al _ _⟩
 have k:(t==0)=false:=by simpa using q
 have l:(t != 0)=true:=by simp[q]
 go_enter func17,ntmps17;go_wp2;go_ret;exact⟨.of (by simp[q]),by first|exact jZ _ _|exact Al _ _⟩
theorem CE(b:Bool)(t:Int)(w:Y):Ai Aq 115 #[b,t] w λe a=>e=Am (Ag Af (if b=true then 0 else t))/\a=w:=by
 cases b<;>
 . go_enter func115,ntmps115;go_wp2;go_ret;exact⟨rfl,rfl⟩
theorem KN(x:MC)(t:Int)(w:Y):Ai Aq 117 #[An #[x.type,Ag .u32 x.word],t] w λe a=>AM e (t=0\/x.type=t)/\Ah w w a:=by
 by_cases q:t=0
 . subst q;go_enter func117,ntmps117;go_wp2;go_ret;exact⟨.of sP,by first|exact jZ _ _|exact Al _ _⟩
 have b:(t==0)=false:=by simpa using q
 go_enter func117,ntmps117;go_wp2;go_ret;exact⟨.of (by simp[q]),by first|exact jZ _ _|exact Al _ _⟩
def Cz(a ts:List Int):Prop:=a.length=ts.length/\∀j,j<a.length->∀x,a[j]?=K x->ts[j]?=K 1->x<=1
def Gn(a ts:List Int):Prop:=∀j,j<a.length->∀x,a[j]?=K x->∀t,ts[j]?=K t->CI ⟨t,x⟩
theorem Iw(t s:J)(a ts:List Int)(w:Y)(X:a.length<=1048576)(hw:∀z∈a,0<=z)(m:ts.length= ↑a)(h:Rd w 1 s a (Ad JJ a))(f:Rd w 1 t ts (Ad As ts)):
 Ai Aq 77 #[t,s] w λe w'=>AM e (Gn a ts)/\Ah w w w':=by
 rw[m]at f;have C:Ae (Rd w 1 s a (Ad JJ a)):=h;have D:Ae (Rd w 1 t a (Ad As ts)):=f;have R:Ae (∀z∈a,0<=z):=hw;clear hw;obtain⟨a1,c1,rfl⟩:=h.aP;obtain⟨a2,c2,rfl⟩:=f.aP;clear h f;generalize L:a.length=n at X m C D;have q:Ae (↑a=n):=L
 have HM:Ae (↑ts=n):=m
 clear L m;go_enter func77,ntmps77;go_wp2;go_loopw [9] (λi wr=>∃k:Nat,k<=n/\i=Ag Af k/\Ae (∀j,j<k->∀x,a[j]?=K x->∀t,ts[j]?=K t->CI ⟨t,x⟩)/\Ae (Ah w w wr)) (λi _=>n-(intOf i).toNat)
 case atStart=>exact⟨0,oM,rfl, λj V=>oM,jZ _ _⟩
 obtain⟨k,hk,rfl,E,d⟩:=hrel;by_cases r:k<n
 . obtain⟨x,A⟩:∃x,a[k]?=K x:=⟨_,an (by rw[q];exact r)⟩;obtain⟨t,ht⟩:∃t,ts[k]?=K t:=⟨_,an (by rw[HM];exact r)⟩;rcases C.2 with⟨U,_⟩|⟨g,o,c,H,N⟩
   . omega
   rcases D.2 with⟨U,_⟩|⟨g',o',c',I,O⟩
   . omega
   simp only[i8,kW]at H I;obtain⟨rfl,rfl⟩:=H;obtain⟨rfl,rfl⟩:=I;have i0:=Rd.elem JK N k x A 0 _ rfl;have p:=Rd.elem AE O k t ht 0 _ rfl;rw[lJ,jV]at i0 p;rw[<-d.cell (i7 i0)]at i0;rw[<-d.cell (i7 p)]at p;have b:Ae (a[k]?=K x/\ts[k]?=K t):=⟨A,ht⟩
   clear N O A ht;go_wp2_with fail;refine(KO t x _ (R.o x (hC b.1))).mono ?_;rintro e u ⟨⟨T,rfl,l⟩,G⟩;have F:Ae (Ah w.heap.size w u):=Ar d lR G;clear i0 p G;cases T
   . (have P:Ae (¬Gn a ts):= λe=>absurd (l.2 (e k (by rw[q];exact r) x b.1 t b.2)) lF);clear l;go_wp2;go_ret;exact⟨.no P,F⟩
   have S:Ae (∀j,j<k+1->∀x,a[j]?=K x->∀t,ts[j]?=K t->CI ⟨t,x⟩):= λj V y B t' v=>by
    by_cases e:j=k
    . subst e;rw[b.1]at B;rw[b.2]at v;obtain rfl:=jM B;obtain rfl:=jM v;exact l.1 rfl
    exact E.o j oM y B t' v
   clear l;go_wp2;go_roundw;(case rel=>exact⟨k+1,oM,by go_num,S,F⟩);exact oI
 have W:n=k:=oM;subst W;have Q:Ae (Gn a ts):=by show Gn a ts;unfold Gn;rw[q];exact E
 go_wp2;go_ret;exact⟨.fk Q,d⟩
theorem LU(s:J)(cs:List MC)(w:Y)(I:cs.length<=1048576)(hw:∀c∈cs,0<=c.word)(h:Rd w 2 s cs (Ad MC.cells cs)):
 Ai Aq 121 #[s] w λe L=>AM e (BC cs)/\Ah w w L:=by
 have m:=Aw h;obtain⟨N,c1,rfl⟩:=h.aP;have D:=Aw hw;generalize G:cs.length=n at I m;have a:=Aw G;by_cases T:64<n
 . (have f:Ae (¬BC cs):= λe=>absurd e.1 (by rw[a];omega));go_enter func121,ntmps121;go_wp2;go_ret;exact⟨.no f,jZ _ _⟩
 go_enter func121,ntmps121;go_wp2;go_loopw [10] (λi wr=>∃k:Nat,k<=n/\i=iZ k/\Ae (∀j,j<k->∀c,cs[j]?=K c->CI c)/\Ae (Ah w w wr)) (λi _=>n-(intOf i).toNat)
 case atStart=>exact⟨0,oM,rfl, λj P=>oM,jZ _ _⟩
 obtain⟨k,Q,rfl,p,d⟩:=hrel;by_cases y:k<n
 . obtain⟨x,l⟩:∃x,cs[k]?=K x:=⟨_,an (by rw[a];exact y)⟩;rcases m.2 with⟨O,_⟩|⟨b,o,c,r,v⟩
   . omega
   simp only[i8,kW]at r;obtain⟨rfl,rfl⟩:=r;have i0:=Rd.elem MC.bW v k x l 0 _ rfl;have z:=Rd.elem MC.bW v k x l 1 _ rfl;rw[<-d.cell (i7 i0),jV]at i0;rw[<-d.cell (i7 z)]at z;have g:=Aw l;have S:¬b=wr.heap.size:=lL (i7 i0);have R:b<wr.heap.size:=i7 i0;have B:Ae (Ah w w (Ac wr (Ak #[x.type,Ag .u32 x.word] 31))):=Ar d lR (Al _ _);go_wp2_with fail;refine(KO x.type x.word _ (D.o x (hC g))).mono ?_;rintro e u ⟨⟨E,rfl,t⟩,F⟩;have q:=Aw (Ar B lR F);cases E
   . (have f:Ae (¬BC cs):= λe=>absurd (t.2 (e.2 k (by rw[a];exact y) x g)) lF);go_wp2;go_ret;exact⟨.no f,q⟩
   have A:Ae (CI x):=t.1 rfl;go_wp2;go_roundw;(case rel=>exact⟨k+1,oM,by go_num,GH g A p,q⟩);exact oI
 have H:n=k:=oM;subst H;have C:Ae (BC cs):=⟨by rw[a];omega,by rw[a];exact p⟩;go_wp2;go_ret;exact⟨.fk C,d⟩
theorem Kl(h:q:=by generalize f.aD.length=n1 at*;generalize f.a7.length=n2 at*;generalize f.aU.length=n3 at*;go_enter func158,ntmps158;go_wp2;go_ret;exact⟨.no HN,HB⟩):q:=h
theorem Nm(v:VF)(f:MF)(w:Y)(s:f.small)(h:FH w v f):
 Ai Aq 158 #[An #[v.p,f.cu,v.l,v.c]] w λe A=>AM e (Cj f)/\Ah w w A:=by
 have b:=Aw (fd h s);obtain⟨t,c1,n⟩:=h.1.aP;obtain⟨x,c2,q⟩:=h.2.1.aP;obtain⟨y,c3,r⟩:=h.2.2.aP;obtain⟨O,vl,N⟩:=v;obtain⟨s1,s2,L⟩:=s;simp only[]at n q r;subst n q r;have HB:Ae (Ah w w (Ac w (Ak #[Z t f.aD c1,f.cu,Z x f.a7 c2,Z y f.aU c3] 34))):=Al _ _;by_cases B:8<f.aD.length
 . (have HN:Ae (¬Cj f):= λe=>absurd e.par oM);exact Kl
 by_cases D:32<f.aD.length+ ↑f.a7
 . (have HN:Ae (¬Cj f):= λe=>absurd e.loc oM);exact Kl
 by_cases d:f.aU.length=0
 . (have HN:Ae (¬Cj f):= λe=>e.code0 d);generalize f.aD.length=n1 at*;generalize f.a7.length=n2 at*;generalize f.aU.length=n3 at*;subst d;go_enter func158,ntmps158;go_wp2;go_ret;exact⟨.no HN,HB⟩
 by_cases G:1024<f.aU.length
 . (have HN:Ae (¬Cj f):= λe=>absurd e.j7 oM);exact Kl
 have C:¬(8:Int)<(f.aD:Int):=oM;have E:¬(32:Int)<(f.aD:Int)+(f.a7:Int):=oM;have F:((f.aU:Int)==0)=false:=by simpa using d
 have H:¬(1024:Int)<(f.aU:Int):=oM;have a:Ae (f.aD.length<=8/\f.aD.length+ ↑f.a7<=32/\¬f.aU.length=0/\f.aU.length<=1024):=⟨oM,oM,d,oM⟩
 go_enter func158,ntmps158;go_wp2_with fail;refine(GL _ f.aD _ b.2.1 (b.1.1.av HB lR)).mono ?_;rintro e u ⟨rfl,rfl⟩;cases t1:f.aD.all Fd
 . (have HN:Ae (¬Cj f):= λe=>by have:=e.pt;simp[t1]at this);go_wp2;go_ret;exact⟨.no HN,HB⟩
 have k:=Aw t1;go_wp2_with fail;refine(GL _ f.a7 _ b.2.2.1 (b.1.2.1.av HB lR)).mono ?_;rintro e u ⟨rfl,rfl⟩;cases t1:f.a7.all Fd
 . (have HN:Ae (¬Cj f):= λe=>by have:=e.lt;simp[t1]at this);go_wp2;go_ret;exact⟨.no HN,HB⟩
 have m:=Aw t1;generalize z:f.cu=R at*;have g:=Aw z;by_cases j:R=0
 . subst j;have i:Ae (Cj f):=⟨a.1,a.2.1,k,m,.inl g,a.2.2.1,a.2.2.2⟩;go_wp2;go_ret;exact⟨.fk i,HB⟩
 have I:(R==0)=false:=by simpa using j
 go_wp2_with fail;refine(Ck R _).mono ?_;rintro e u ⟨rfl,rfl⟩;cases t1:Fd R
 . (have HN:Ae (¬Cj f):= λe=>by have:=e.eY;rw[g]at this;simp[j,t1]at this);go_wp2;go_ret;exact⟨.no HN,HB⟩
 have i:Ae (Cj f):=⟨a.1,a.2.1,k,m,.inr (by rw[g];exact t1),a.2.2.1,a.2.2.2⟩;go_wp2;go_ret;exact⟨.fk i,HB⟩
def Hc(t x:Int):MC:=⟨t,if t=1 then word (decide (¬x=0))else x⟩
def Ba(ts a:List Int):List MC:=List.zipWith Hc ts a
theorem Dw(ts a:List Int)(h:a.length= ↑ts):(Ba ts a).length=ts.length:=by simp[Ba,h]
theorem Ux(ts a:List Int)(k:Nat)(t x:Int)(ht:ts[k]?=K t)(b:a[k]?=K x):(Ba ts a)[k]?=K (Hc t x):=by simp[Ba,List.getElem?_zipWith,ht,b]
theorem OE{α:Type}(xs:List α)(k:Nat)(x:α)(h:xs[k]?=K x):xs.take (k+1)=xs.take k++[x]:=by obtain⟨a,rfl⟩:=f7.1 h;exact kN a
theorem Nh(x:MC):∀u∈x.cells,u.oneCell'=true:=by intro u a;simp[MC.cells]at a;rcases a with rfl|rfl<;>rfl
theorem Fu(w:Y)(cs:Array J)(t:Aj):(Ac w (Ak cs t)).heap[w.heap.size]?=K (Ak cs t (0,0)):=mY
theorem Qy(t s:J)(b ts:List Int)(w:Y)(hn:ts.length<=1048576)(n:b.length= ↑ts)(h:Rd w 1 s b (Ad JJ b))(B:Rd w 1 t ts (Ad As ts)):
 Ai Aq 44 #[t,s] w λe W=>∃a c,e=Am (Z a ts c)/\Ab W w 193 2 (Z a ts c) ts (Ad MC.cells (Ba ts b))/\Ah w w W:=by
 obtain⟨i0,hi,ae,ai,aj⟩:=km XE;rw[n]at h;have H:Ae (Rd w 1 s ts (Ad JJ b)/\Rd w 1 t ts (Ad As ts)/\(Ba ts b).length= ↑ts/\b.length= ↑ts):=⟨h,B,Dw ts b n,n⟩
 obtain⟨a1,c1,rfl⟩:=h.aP;obtain⟨a2,c2,rfl⟩:=B.aP;clear h B n;generalize Q:ts.length=L at hn H⊢;have X:Ae (↑ts=L):=Q
 clear Q;go_enter func44,ntmps44;go_wp2_with (at_make;refine mc _ rfl _ _ 45 rfl w 193 i0 (.agg #[.int Af 0,.int .u32 0]) 2 underlying45 hi ae ai Af Af _ _ L rfl rfl rfl rfl (by rw[aj];omega) oX lR ?_;intro w1 d V);rw[DP MC.cells [.int Af 0,.int .u32 0] (Ba ts b) L (.agg #[.int Af 0,.int .u32 0]) 2 rfl rfl oM]at d;have P:Ah w w w1:=(jZ _ _).grown V lR (λk C=>by cases C);clear V;go_loopw [13] (λi wr=>∃k:Nat,k<=L/\i=.int Af k/\Ab wr w 193 2 (Z w L L) L (CK MC.cells [.int Af 0,.int .u32 0] (Ba ts b) k L)/\Ah w w wr) (λi _=>L-(intOf i).toNat)
 case atStart=>exact⟨0,oM,rfl,d,P⟩
 clear d P;obtain⟨k,C,rfl,d,m⟩:=hrel;by_cases D:k<L
 . obtain⟨x,F⟩:∃x,b[k]?=K x:=⟨_,an (by rw[H.2.2.2];exact D)⟩;obtain⟨t,ht⟩:∃t,ts[k]?=K t:=⟨_,an (by rw[X];exact D)⟩;have U:=Ux ts b k t x ht F;have p:=KM MC.cells [.int Af 0,.int .u32 0] (Ba ts b) k L _ U;rw[Jn MC.cells [.int Af 0,.int .u32 0] (Ba ts b) k L D]at d;(have l:(Ad MC.cells ((Ba ts b).take k)).length=k*2:=by rw[AV MC.cells 2 MC.bW,kp,H.2.2.1,Nat.min_eq_left C]);generalize Ad MC.cells ((Ba ts b).take k)=A at d p l;generalize (List.replicate (L-(k+1)) [Value.int Af 0,Value.int .u32 0]).flatten=R at d p;rcases H.1.2 with⟨e0,_⟩|⟨g,o,c,N,S⟩
   . omega
   rcases H.2.1.2 with⟨e0,_⟩|⟨g',o',c',O,T⟩
   . omega
   simp only[i8,kW]at N O;obtain⟨rfl,rfl⟩:=N;obtain⟨rfl,rfl⟩:=O;have r:=Rd.elem JK S k x F 0 _ rfl;have G:=Rd.elem AE T k t ht 0 _ rfl;rw[lJ,jV]at r G;have v:¬g=w.heap.size:=lL (i7 r);rw[<-m.cell (i7 r)]at r;rw[<-m.cell (i7 G)]at G;have au:(k:Int)<(L:Int):=oM;have f0:=d.frozenAt (k*2);have f1:=d.frozenAt (k*2+1);have y:=d.cellAt (k*2) oM;have z:=d.cellAt (k*2+1) oM;rw[jX oM,l]at y z;rw[mM]at y;rw[lO]at z;simp only[lI,f8,i6]at y z;have HO:Ae (Ab wr w 193 2 (Z w L L) L (A++([.int Af 0,.int .u32 0]++R))/\ ↑A=k*2/\CK MC.cells [.int Af 0,.int .u32 0] (Ba ts b) (k+1) L=A++((Hc t x).cells++R)/\Ah w w wr):=⟨d,l,p,m⟩
   clear d l p S T F ht U;have nb:¬g=w.heap.size:=v;have ax:¬ ↑w=g:= λe=>v e.symm
   clear v;by_cases q:t=1
   . subst q;by_cases I:x=0
     . subst I;have aq:((0:Int) != 0)=false:=rfl;have f:Ae ((Hc 1 0).cells=[.int Af 1,.int .u32 0]):=rfl;go_wp2_with fail;refine(De false _).mono ?_;rintro e u ⟨rfl,E⟩;rw[show word false=0 from rfl];subst E;go_wp2;go_roundw;(case rel=>refine⟨k+1,oM,by go_num,?_,((HO.2.2.2.setCell lR _).setCell lR _).setCell lR _⟩;have j:=(HO.1.stored (k*2) (.int Af 1)).1;have s1:=(j.stored (k*2+1) (.int .u32 0)).1;rw[Z2 A R _ _ _ _ (k*2) HO.2.1]at s1;have s2:=(s1.stored (k*2+1) (.int .u32 0)).1;rw[HO.2.2.1,f];simpa[<-HO.2.1]using s2);case measure=>exact oI
     (have aq:(x != 0)=true:=by simpa using I);(have f:Ae ((Hc 1 x).cells=[.int Af 1,.int .u32 1]):=by show _=_;unfold Hc;simp[I,word,MC.cells]);go_wp2_with fail;refine(De true _).mono ?_;rintro e u ⟨rfl,E⟩;rw[show word true=1 from rfl];subst E;go_wp2;go_roundw;(case rel=>refine⟨k+1,oM,by go_num,?_,((HO.2.2.2.setCell lR _).setCell lR _).setCell lR _⟩;have j:=(HO.1.stored (k*2) (.int Af 1)).1;have s1:=(j.stored (k*2+1) (.int .u32 x)).1;rw[Z2 A R _ _ _ _ (k*2) HO.2.1]at s1;have s2:=(s1.stored (k*2+1) (.int .u32 1)).1;rw[HO.2.2.1,f];simpa[<-HO.2.1]using s2);case measure=>exact oI
   (have q':(t==1)=false:=by simpa using q);(have f:Ae ((Hc t x).cells=[.int Af t,.int .u32 x]):=by show _=_;unfold Hc;rw[jH q];rfl);clear q;go_wp2;go_roundw;(case rel=>refine⟨k+1,oM,by go_num,?_,(HO.2.2.2.setCell lR _).setCell lR _⟩;have j:=(HO.1.stored (k*2) t).1;have s1:=(j.stored (k*2+1) (.int .u32 x)).1;rw[Z2 A R _ _ _ _ (k*2) HO.2.1]at s1;rw[HO.2.2.1,f];exact s1);case measure=>exact oI
 have aa:k=L:=oM;subst aa;rw[L9 _ _ _ _ H.2.2.1]at d;have HO:Ae (Ab wr w 193 2 (Z w k k) k (Ad MC.cells (Ba ts b))):=d;clear d;go_wp2;go_ret;exact⟨_,_,rfl,HO,m⟩
theorem FG(t:Int)(w:Y):Ai Aq 78 #[t] w λe a=>e=Am (.agg #[t,.int .u32 0])/\Ah w w a:=by go_enter func78,ntmps78;go_wp2;exact kA (v:=.agg #[t,.int .u32 0]) (by simp[results,results78,go_sem]) rfl ⟨rfl,(jZ _ _).alloc lR _⟩
theorem KZ(t:J)(ts:List Int)(w:Y)(G:ts.length<=4194304)(n:Rd w 1 t ts (Ad As ts)):
 Ai Aq 41 #[t] w λe D=>∃a c,e=Am (Z a ts c)/\Ab D w 193 2 (Z a ts c) ts (Ad MC.cells (ts.map λt=>(⟨t,0⟩:MC)))/\Ah w w D:=by
 obtain⟨i0,E,I,N,O⟩:=km XE;have H:Ae (Rd w 1 t ts (Ad As ts)):=n;obtain⟨S,c2,rfl⟩:=n.aP;clear n;generalize x:ts.length=L at G H⊢;have j:Ae (↑ts=L):=x
 clear x;go_enter func41,ntmps41;go_wp2_with (at_make;refine mc _ rfl _ _ 45 rfl w 193 i0 (.agg #[.int Af 0,.int .u32 0]) 2 underlying45 E I N Af Af _ _ L rfl rfl rfl rfl (by rw[O];omega) oX lR ?_;intro Q b B);rw[DP MC.cells [.int Af 0,.int .u32 0] (ts.map λt=>(⟨t,0⟩:MC)) L (.agg #[.int Af 0,.int .u32 0]) 2 rfl rfl oM]at b;have v:Ah w w Q:=(jZ _ _).grown B lR (λk q=>by cases q);clear B;go_loopw [11] (λi wr=>∃k:Nat,k<=L/\i=.int Af k/\Ab wr w 193 2 (Z w L L) L (CK MC.cells [.int Af 0,.int .u32 0] (ts.map λt=>(⟨t,0⟩:MC)) k L)/\Ah w w wr) (λi _=>L-(intOf i).toNat)
 case atStart=>exact⟨0,oM,rfl,b,v⟩
 clear b v;obtain⟨k,q,rfl,b,f⟩:=hrel;by_cases C:k<L
 . obtain⟨t,ht⟩:∃t,ts[k]?=K t:=⟨_,an (by rw[j];exact C)⟩;(have z:(ts.map λt=>(⟨t,0⟩:MC))[k]?=K ⟨t,0⟩:=by simp[ht]);have g:=KM MC.cells [.int Af 0,.int .u32 0] (ts.map λt=>(⟨t,0⟩:MC)) k L _ z;rw[Jn MC.cells [.int Af 0,.int .u32 0] (ts.map λt=>(⟨t,0⟩:MC)) k L C]at b;(have d:(Ad MC.cells ((ts.map λt=>(⟨t,0⟩:MC)).take k)).length=k*2:=by rw[AV MC.cells 2 MC.bW,kp,kC,j.o,Nat.min_eq_left q]);generalize Ad MC.cells ((ts.map λt=>(⟨t,0⟩:MC)).take k)=A at b g d;generalize (List.replicate (L-(k+1)) [Value.int Af 0,Value.int .u32 0]).flatten=R at b g;rcases H.2 with⟨T,_⟩|⟨U,W,c',s,y⟩
   . omega
   simp only[i8,kW]at s;obtain⟨rfl,rfl⟩:=s;have h:=Rd.elem AE y k t ht 0 _ rfl;rw[lJ,jV]at h;rw[<-f.cell (i7 h)]at h;have V:(k:Int)<(L:Int):=oM;have HO:Ae (Ab wr w 193 2 (Z w L L) L (A++([.int Af 0,.int .u32 0]++R))/\ ↑A=k*2/\CK MC.cells [.int Af 0,.int .u32 0] (ts.map λt=>(⟨t,0⟩:MC)) (k+1) L=A++([.int Af t,.int .u32 0]++R)/\Ah w w wr):=⟨b,d,g,f⟩
   clear b d g y ht z f;go_wp2_with fail;refine(FG t _).mono ?_;rintro e u ⟨rfl,p⟩;have b:=AC HO.1 p lR;have d:=HO.2.1;have f0:=b.frozenAt (k*2);have f1:=b.frozenAt (k*2+1);have l:=b.cellAt (k*2) oM;have m:=b.cellAt (k*2+1) oM;rw[jX oM,d]at l m;rw[mM]at l;rw[lO]at m;simp only[lI,f8,i6]at l m;have r:Ae (Ah w w u/\Ab u w 193 2 (Z w L L) L (A++([.int Af 0,.int .u32 0]++R))):=⟨HO.2.2.2.trans (p.mono HO.2.2.2.size),b⟩
   clear b d p h;go_wp2;go_roundw;(case rel=>refine⟨k+1,oM,by go_num,?_,(r.1.setCell lR _).setCell lR _⟩;have P:=(r.2.stored (k*2) (.int Af t)).1;have s1:=(P.stored (k*2+1) (.int .u32 0)).1;rw[Z2 A R _ _ _ _ (k*2) HO.2.1]at s1;rw[HO.2.2.1];exact s1);case measure=>exact oI
 have F:k=L:=oM;subst F;rw[L9 _ _ _ _ (by rw[kC];exact j)]at b;have HO:Ae (Ab wr w 193 2 (Z w k k) k (Ad MC.cells (ts.map λt=>(⟨t,0⟩:MC)))):=b;clear b;go_wp2;go_ret;exact⟨_,_,rfl,HO,f⟩
def nS:Option J->Int
 |some (Ag _ z)=>z
 |_=>0
def AG(op:Int):Int:=nS (CL op)[2]?
theorem Nt(op:Int):∃(s:ByteArray) (c:Int),CL op=#[.string s,iZ c,iZ (AG op)]:=by
 obtain⟨s,c,f,h⟩:=Q4 op;refine⟨s,c,?_⟩;rw[h];have:AG op=f:=by unfold AG;rw[h];rfl
 rw[this]
theorem SF(k:Nat)(a:k<30):(0<=AG k/\AG k<=11)/\(AG k=3->k=4\/k=5)/\(AG k=4->k=6\/k=7):=by
 have h:∀k:Fin 30,(0<=AG (k.val:Int)/\AG (k.val:Int)<=11)/\(AG (k.val:Int)=3->k.val=4\/k.val=5)/\(AG (k.val:Int)=4->k.val=6\/k.val=7):=by decide+kernel
 exact h ⟨k,a⟩
def Cb(F t:Int):Prop:=(F=5/\(t=2\/t=3))\/(F=6/\(t=1\/t=3))\/(F=7/\Fd t=true)
def BU(p:MP)(f:MF)(F op a b c:Int):Prop:=
 (F=0/\a=0/\b=0/\c=0)\/(F=1/\0<=a/\a< ↑p.b8/\b=0/\c=0)\/(F=2/\¬AJ f a=0/\b=0/\c=0)\/
 (F=3/\¬CJ p a b=0/\c=0/\(op=4\/¬a=0))\/(F=4/\OR p a b c/\(op=6\/¬a=0))\/(Cb F a/\b=0/\c=0)\/
 (F=8/\Fd a=true/\Fd b=true/\¬a=b/\c=0)\/(F=9/\a=0/\b=0/\0<=c/\c< ↑f.aU)\/
 (F=10/\¬AJ f a=0/\b=0/\0<=c/\c< ↑f.aU)\/(F=11/\0<=a/\a< ↑p.aB/\b=0/\c=0)
def AW(p:MP)(f:MF)(x:MI):Prop:=0<=x.op/\x.op<=29/\BU p f (AG x.op) x.op x.a x.b x.c
theorem SS(s:ByteArray)(co F:Int)(w:Y):(Instr.field 78 (An #[.string s,co,F]) 2).run Aq w=.ok F w:=kR
inductive ES (E:Nat->List Nat) (ok:Nat->Prop) (a:Nat):Nat->Prop
 |here:ok a->ES E ok a a
 |step {b c:Nat}:ES E ok a b->c∈E b->ok c->ES E ok a c
inductive FY (E:Nat->List Nat) (ok:Nat->Prop) (a:Nat):Nat->Nat->Prop
 |here (k:Nat):ok a->FY E ok a k a
 |step {k b c:Nat}:FY E ok a k b->c∈E b->ok c->FY E ok a (k+1) c
section
variable {E:Nat->List Nat} {ok ok':Nat->Prop} {a b c:Nat}
theorem ES.trans(h:ES E ok a b)(d:ES E ok b c):ES E ok a c:=by
 induction d with
 |here _=>exact h
 |step _ e f g=>exact .step g e f
theorem ES.mono(h:ES E ok a b)(hw:∀x,ok x->ok' x):ES E ok' a b:=by
 induction h with
 |here h=>exact .here (hw _ h)
 |step _ c d e=>exact .step e c (hw _ d)
theorem ES.jr(h:ES E ok a b):ok b:=by
 cases h with
 |here h=>exact h
 |step _ _ h=>exact h
theorem ES.iq(h:ES E ok a b):ok a:=by
 induction h with
 |here h=>exact h
 |step _ _ _ c=>exact c
theorem ES.lt{n:Nat}(d:∀b,b<n->∀x∈E b,x<n)(e:a<n)(h:ES E ok a b):b<n:=by
 induction h with
 |here _=>exact e
 |step _ c _ f=>exact d _ f _ c
theorem FY.mono{k c:Nat}(h:FY E ok a k b)(g:k<=c):FY E ok a c b:=by
 induction h generalizing c with
 |here k h=>exact .here _ h
 | step _ d e f=>
   cases c with
   |zero=>omega
   |succ c=>exact .step (f oM) d e
theorem FY.iJ{k:Nat}(h:FY E ok a k b):ES E ok a b:=by
 induction h with
 |here k h=>exact .here h
 |step _ c d e=>exact .step e c d
theorem ES.some(h:ES E ok a b):∃k,FY E ok a k b:=by
 induction h with
 |here h=>exact⟨0,.here _ h⟩
 | step _ c d f=>obtain⟨k,e⟩:=f;exact⟨k+1,.step e c d⟩
end
theorem Oq(m:Nat)(Q:Nat->Nat->Prop)(d:∀i k g,Q i k->k<=g->Q i g)(P:Nat->Prop)(h:∀i,P i->∃k,Q i k):∃K,∀i,i<m->P i->Q i K:=by
 induction m with
 |zero=>exact⟨0, λi b=>absurd b (Nat.not_lt_zero _)⟩
 | succ m l=>
   obtain⟨K,c⟩:=l;by_cases f:P m
   . obtain⟨k,j⟩:=h m f;refine⟨max K k, λi b a=> ?_⟩;by_cases e:i=m
     . subst e;exact d _ _ _ j (Nat.le_max_right _ _)
     exact d _ _ _ (c i oM a) (Nat.le_max_left _ _)
   refine⟨K, λi b a=> ?_⟩;by_cases e:i=m
   . subst e;exact absurd a f
   exact c i oM a
theorem VR(E:Nat->List Nat)(n:Nat):∃K,∀e,e<n->∀x,x<n->ES E (· ≠e) 0 x->FY E (· ≠e) 0 K x:=by
 have d:∀e,∃k,∀x,x<n->ES E (· ≠e) 0 x->FY E (· ≠e) 0 k x:= λe=>
  Oq n (λx k=>FY E (· ≠e) 0 k x) (λi k j h a=>h.mono a) (λx=>ES E (· ≠e) 0 x) (λi h=>h.some)
 obtain⟨K,f⟩:=Oq n (λe k=>∀x,x<n->ES E (· ≠e) 0 x->FY E (· ≠e) 0 k x) (λi k j h a x c b=>(h x c b).mono a) (λ_=>True) (λi _=>d i);exact⟨K, λe g x c b=>f e g trivial x c b⟩
def Ed(E:Nat->List Nat)(d b:Nat):Prop:=¬ES E (· ≠d) 0 b
inductive EW (I:Nat->Int) (d:Nat):Nat->Prop
 |here:EW I d d
 |up {b c:Nat}:b≠0->I b=(c:Int)->EW I d c->EW I d b
def Kn(I:Nat->Int)(b:Nat):Prop:=b=0\/I b≠ -1
structure Sh(n:Nat)(pl:Nat->Nat)(I:Nat->Int):Prop where
 up:∀b,b<n->b≠0->I b≠ -1->∃c:Nat,I b=(c:Int)/\c<n/\pl c<pl b/\Kn I c
section
variable {n:Nat} {pl:Nat->Nat} {I J:Nat->Int} {d e b c x:Nat}
theorem EW.trans(h:EW I d c)(a:EW I c b):EW I d b:=by
 induction a with
 |here=>exact h
 |up h1 h2 _ ih=>exact .up h1 h2 ih
theorem EW.fU(ht:Sh n pl I)(a:b<n)(h:EW I d b):pl d<=pl b/\(d≠b->pl d<pl b)/\d<n:=by
 induction h with
 |here=>exact⟨Nat.le_refl _, λh=>absurd rfl h,a⟩
 | @up b c h1 h2 _ ih=>obtain⟨c',e,f,i,_⟩:=ht.up b a h1 (by rw[h2];omega);obtain rfl:c'=c:=oM;obtain⟨j,k,g⟩:=ih f;exact⟨oM, λ_=>oM,g⟩
theorem EW.zero(h:EW I d 0):d=0:=by
 cases h with
 |here=>rfl
 |up h1=>exact absurd rfl h1
theorem EW.fL(h:EW I d b)(a:d≠b):b≠0/\∃c:Nat,I b=(c:Int)/\EW I d c:=by
 cases h with
 |here=>exact absurd rfl a
 |up h1 h2 h3=>exact⟨h1,_,h2,h3⟩
theorem EW.gm(ht:Sh n pl I)(f:b<n)(h:EW I d b)(c:EW I b d):d=b:=by
 have a:=h.fU ht f;have g:=c.fU ht a.2.2;by_cases e:d=b
 . exact e
 have:=a.2.1 e;omega
theorem EW.turn(f:∀y,y≠b->I y=J y)(h:EW I d x):EW J d x\/(EW J b x/\EW I b x/\EW I d b):=by
 induction h with
 |here=>exact .inl .here
 | @up x c h1 h2 h3 a=>
   by_cases e:x=b
   . subst e;exact .inr ⟨.here,.here,.up h1 h2 h3⟩
   rcases a with a|⟨g,i,j⟩
   . exact .inl (.up h1 (by rw[<-f x e];exact h2) a)
   exact .inr ⟨.up h1 (by rw[<-f x e];exact h2) g,.up h1 h2 i,j⟩
end
def Cw(I:Nat->Int)(a b m:Nat):Prop:=∀d,EW I d m↔EW I d a/\EW I d b
theorem Cw.same(I:Nat->Int)(a:Nat):Cw I a a a:= λd=>⟨λh=>⟨h,h⟩, λh=>h.1⟩
theorem Cw.symm{I:Nat->Int}{a b m:Nat}(h:Cw I a b m):Cw I b a m:= λd=>(h d).trans And.comm
theorem Cw.left{n:Nat}{pl:Nat->Nat}{I:Nat->Int}{a b m c:Nat}(ht:Sh n pl I)(i:b<n)(l:pl b<pl a)(g:a≠0)(j:I a=(c:Int))(h:Cw I c b m):Cw I a b m:= λd=>by
 rw[h d];refine⟨λq=>⟨.up g j q.1,q.2⟩, λq=>⟨?_,q.2⟩⟩;by_cases e:d=a
 . subst e;have:=(q.2.fU ht i).1;omega
 obtain⟨_,c',k,f⟩:=q.1.fL e;obtain rfl:c'=c:=oM;exact f
def Bg(n:Nat)(I:Nat->Int)(ps:List Nat)(z:Int):Prop:=(z=-1/\∀p∈ps,¬Kn I p)\/∃m:Nat,z=(m:Int)/\m<n/\Kn I m/\(∃p∈ps,Kn I p)/\∀d,EW I d m↔∀p∈ps,Kn I p->EW I d p
structure Jf(E:Nat->List Nat)(n:Nat)(pl:Nat->Nat)(I:Nat->Int):Prop where
 tree:Sh n pl I
 gj:∀x,x<n->Kn I x->∀d,Ed E d x->EW I d x
 gq:∀b c:Nat,b<n->b≠0->I b=(c:Int)->ES E (λx=>pl c<=pl x) c b
def Nb(E:Nat->List Nat)(n:Nat)(pl:Nat->Nat)(I:Nat->Int)(k j:Nat):Prop:=∀x,x<n->Kn I x->∀e,EW I e x->¬FY E (· ≠e) 0 k x/\(pl x<j->¬FY E (· ≠e) 0 (k+1) x)
theorem Jf.down{E:Nat->List Nat}{n:Nat}{pl:Nat->Nat}{I:Nat->Int}(h:Jf E n pl I){b x:Nat}(d:x<n)(f:EW I b x):ES E (λy=>pl b<=pl y) b x:=by
 induction f with
 |here=>exact .here lR
 | @up x c h1 h2 h3 ih=>obtain⟨c',e,a,g,_⟩:=h.tree.up x d h1 (by rw[h2];omega);obtain rfl:c'=c:=oM;have i:=(h3.fU h.tree a).1;exact(ih a).trans ((h.gq x c' d h1 h2).mono λy j=>oM)
theorem FY.split{E:Nat->List Nat}{e b k x:Nat}(h:FY E (· ≠e) 0 k x):FY E (· ≠b) 0 k x\/FY E (· ≠e) 0 k b:=by
 induction h with
 | here k h=>
   by_cases q:(0:Nat)=b
   . subst q;exact .inr (.here _ h)
   exact .inl (.here _ q)
 | @step k p c h1 h2 h3 a=>
   rcases a with a|a
   . by_cases q:c=b
     . subst q;exact .inr (.step h1 h2 h3)
     exact .inl (.step a h2 q)
   exact .inr (a.mono oM)
def Kx(E:Nat->List Nat)(n b:Nat)(ps:List Nat):Prop:=∀p,p∈ps↔p<n/\b∈E p
theorem QU{E:Nat->List Nat}{n b d:Nat}{ps:List Nat}(e:Kx E n b ps)(h:Ed E d b)(a:d≠b):∀p∈ps,Ed E d p:= λp c f=>h (.step f ((e p).1 c).2 a.symm)
theorem Ph{E:Nat->List Nat}{n b d:Nat}{ps:List Nat}(e:∀b,b<n->∀x∈E b,x<n)(g:0<n)(i:Kx E n b ps)(f:b≠0)(h:∀p∈ps,Ed E d p):Ed E d b:= λj=>by
 cases j with
 |here _=>exact f rfl
 |step a c _=>exact h _ ((i _).2 ⟨a.lt e g,c⟩) a
structure Fa(E:Nat->List Nat)(n:Nat)(pl:Nat->Nat):Prop where
 pos:0<n
 fQ:∀b,b<n->∀x∈E b,x<n
 zero:pl 0=0
 cz:∀b,b<n->b≠0->0<pl b
 inj:∀a b,a<n->b<n->pl a=pl b->a=b
 par:∀b,b<n->b≠0->∃q,q<n/\b∈E q/\pl q<pl b
section
variable {E:Nat->List Nat} {n:Nat} {pl:Nat->Nat} {I J:Nat->Int} {b m k:Nat} {ps:List Nat}
theorem J7(l:Fa E n pl)(k:Jf E n pl I)(r:b<n)(s:b≠0)(v:Kx E n b ps)(u:∀x,x<n->pl x<pl b->Kn I x)(t:Bg n I ps z):∃m:Nat,z=(m:Int)/\m<n/\Kn I m/\pl m<pl b/\∀d,EW I d m↔∀p∈ps,Kn I p->EW I d p:=by
 obtain⟨q,a,w,y⟩:=l.par b r s;have e:=u q a y;have f:=(v q).2 ⟨a,w⟩;rcases t with⟨_,h⟩|⟨m,g,i,j,_,c⟩
 . exact absurd e (h q f)
 have:=((c m).1 .here q f e).fU k.tree a;exact⟨m,g,i,j,oM,c⟩
theorem Jf.set(P:Fa E n pl)(a:Jf E n pl I)(Q:b<n)(R:b≠0)(v:Kx E n b ps)(U:∀x,x<n->pl x<pl b->Kn I x)(u:m<n)(V:Kn I m)(F:pl m<pl b)(D:∀d,EW I d m↔∀p∈ps,Kn I p->EW I d p)(f:∀y,y≠b->I y=J y)(r:J b=(m:Int)):Jf E n pl J/\(∀x,Kn I x->Kn J x)/\(∀x,Kn J x->x=b\/Kn I x)/\(∀d,EW I d m↔EW J d m):=by
 have t:∀x,Kn I x->Kn J x:= λx h=>by
  by_cases e:x=b
  . subst e;exact .inr (by rw[r];omega)
  rcases h with h|h
  . exact .inl h
  exact .inr (by rw[<-f x e];exact h)
 have C:∀x,Kn J x->x=b\/Kn I x:= λx h=>by
  by_cases e:x=b
  . exact .inl e
  rcases h with h|h
  . exact .inr (.inl h)
  exact .inr (.inr (by rw[f x e];exact h))
 have A:Sh n pl J:=⟨λx g k l=>by
  by_cases e:x=b
  . subst e;exact⟨m,r,u,F,t m V⟩
  obtain⟨c,c1,c2,c3,c4⟩:=a.tree.up x g k (by rw[f x e];exact l);exact⟨c,by rw[<-f x e];exact c1,c2,c3,t c c4⟩⟩
 have G:∀d,EW I d m↔EW J d m:= λd=>by
  constructor
  . intro h;rcases h.turn f with h|⟨_,i,_⟩
    . exact h
    have:=(i.fU a.tree u).1;omega
  intro h;rcases h.turn (λy L=>(f y L).symm)with h|⟨_,i,_⟩
  . exact h
  have:=(i.fU A u).1;omega
 have B:∀d,Ed E d b->EW J d b:= λd j=>by
  by_cases e:d=b
  . subst e;exact .here
  refine .up R r ((G d).1 ((D d).2 λp H s=>a.gj p ((v p).1 H).1 s d (QU v j e p H)))
 refine⟨⟨A, λx g s d j=> ?_, λx c g k S=> ?_⟩,t,C,G⟩
 . by_cases e:x=b
   . subst e;exact B d j
   have T:=(C x s).resolve_left e;rcases(a.gj x g T d j).turn f with h|⟨l,i,O⟩
   . exact h
   by_cases z:d=b
   . subst z;exact l
   refine(B d λW=>j (W.trans ((a.down g i).mono λy L q=> ?_))).trans l;subst q;have:=(O.fU a.tree Q).2.1 z;omega
 by_cases e:x=b
 . subst e;obtain rfl:c=m:=oM;obtain⟨q,w,N,X⟩:=P.par x g k;have qa:=(D c).1 .here q ((v q).2 ⟨w,N⟩) (U q w X);exact .step (a.down w qa) N (mI F)
 exact a.gq x c g k (by rw[f x e];exact S)
theorem Nb.set(j:Fa E n pl)(w:Jf E n pl I)(l:Nb E n pl I k (pl b))(A:b<n)(B:b≠0)(F:Kx E n b ps)(Q:∀x,x<n->pl x<pl b->Kn I x)(L:k=0\/∀x,x<n->Kn I x)(S:m<n)(T:Kn I m)(U:pl m<pl b)(C:∀d,EW I d m↔∀p∈ps,Kn I p->EW I d p)(z:∀y,y≠b->I y=J y)(H:J b=(m:Int)):Nb E n pl J k (pl b+1):=by
 obtain⟨X,aa,P,V⟩:=w.set j A B F Q S T U C z H;have t:∀e,EW J e b->¬FY E (· ≠e) 0 (k+1) b:= λe g a=>by
  by_cases q:e=b
  . subst q;exact a.iJ.jr rfl
  obtain⟨_,c,c1,c2⟩:=g.fL q;obtain rfl:c=m:=oM;have N:=(C e).1 ((V e).2 c2);cases a with
  |here _ h=>exact B rfl
  | @step _ p _ f u v=>
    have s:p<n:=f.iJ.lt j.fQ j.pos;have D:Kn I p:=by
     rcases L with rfl|h
     . (cases f);exact .inl rfl
     exact h p s
    exact(l p s D e (N p ((F p).2 ⟨s,u⟩) D)).1 f
 intro x i O e g;by_cases q:x=b
 . subst q;exact⟨λh=>t e g (h.mono oM), λ_=>t e g⟩
 have r:=(P x O).resolve_left q;rcases g.turn (λy W=>(z y W).symm)with h|⟨f,u,v⟩
 . refine⟨(l x i r e h).1, λR=>(l x i r e h).2 ?_⟩;by_cases G:pl x=pl b
   . exact absurd (j.inj x b i A G) q
   omega
 refine⟨λa=> ?_, λR=> ?_⟩
 . rcases a.split (b:=b)with a|a
   . exact(l x i r b f).1 a
   exact t e v (a.mono oM)
 have:=(f.fU w.tree i).2.1 (Ne.symm q);omega
theorem Zm(e:Fa E n pl)(j:Jf E n pl I)(f:∀x,x<n->Kn I x)(q:Nat->List Nat)(t:∀b,b<n->Kx E n b (q b))(s:∀b,b<n->b≠0->Bg n I (q b) (I b)){d x:Nat}(a:x<n):EW I d x↔Ed E d x:=by
 refine⟨λk u=> ?_,j.gj x a (f x a) d⟩;induction u with
 |here h=>exact h (EW.zero k).symm
 | @step p c h1 h2 h3 ih=>have g:p<n:=h1.lt e.fQ e.pos;obtain⟨i,m,z,r⟩:=k.fL (Ne.symm h3);have l:=t c a;obtain⟨w,f1,_,_,_,f2⟩:=J7 e j a i l (λy v _=>f y v) (s c a i);obtain rfl:w=m:=oM;exact ih g ((f2 d).1 r p ((l p).2 ⟨g,h2⟩) (f p g))
theorem Za(q:Fa E n pl)(a:Jf E n pl I)(k:∀x,x<n->Kn I x)(t:∀x,x<n->∀d,EW I d x->Ed E d x)(f:b<n)(j:b≠0)(i:Kx E n b ps)(B:Bg n I ps z):z=I b:=by
 obtain⟨m,w,A,G,H,s⟩:=J7 q a f j i (λy D _=>k y D) B;obtain⟨c,c1,c2,c3,c4⟩:=a.tree.up b f j ((k b f).resolve_left j);have u:∀d,EW I d m↔EW I d c:= λd=>by
  constructor
  . intro h;(have r:d≠b:= λe=>by have:=(h.fU a.tree A).1;rw[e]at this;omega);(have l:Ed E d b:=Ph q.fQ q.pos i j λp g=>t p ((i p).1 g).1 d ((s d).1 h p g (k p ((i p).1 g).1)));obtain⟨_,c',F,v⟩:=(a.gj b f (k b f) d l).fL r;obtain rfl:c'=c:=oM;exact v
  intro h;have r:d≠b:= λe=>by have:=(h.fU a.tree c2).1;rw[e]at this;omega
  have l:=t b f d (.up j c1 h);exact(s d).2 λp g C=>a.gj p ((i p).1 g).1 C d (QU i l r p g)
 have:=EW.gm a.tree c2 ((u m).1 .here) ((u c).2 .here);rw[w,c1,this]
theorem Jf.start(a:∀y,I y=-1):Jf E n pl I:=⟨⟨λb _ _ h=>absurd (a b) h⟩, λx i g d f=>by
 obtain rfl:x=0:=g.resolve_right λh=>h (a x)
 by_cases e:d=0
 . subst e;exact .here
 exact absurd (.here (Ne.symm e)) f, λb c _ _ h=>by rw[a b]at h;omega⟩
theorem Nb.start(d:Fa E n pl)(a:∀y,I y=-1):Nb E n pl I 0 1:= λx f c e b=>by
 obtain rfl:x=0:=c.resolve_right λh=>h (a x)
 obtain rfl:=b.zero;exact⟨λh=>h.iJ.iq rfl, λ_ h=>h.iJ.iq rfl⟩
theorem Nb.pass(c:Fa E n pl)(d:Nb E n pl I k n)(g:∀x,x<n->pl x<n):Nb E n pl I (k+1) 1:= λx a f e b=>by
 refine⟨(d x a f e b).2 (g x a), λi=> ?_⟩;by_cases q:x=0
 . subst q;obtain rfl:=b.zero;exact λh=>h.iJ.iq rfl
 have:=c.cz x a q;omega
end
inductive Vs (E:Nat->List Nat):List Nat->List Nat->List Nat->List Nat->List Nat->Prop
 |nil (S O:List Nat):Vs E S O [] S O
 |old {S O r S' O':List Nat} {b:Nat}:b∈S->Vs E S O r S' O'->Vs E S O (b::r) S' O'
 |new {S O r S1 O1 S2 O2:List Nat} {b:Nat}:b∉S->Vs E (b::S) O (E b) S1 O1->Vs E S1 (O1++[b]) r S2 O2->Vs E S O (b::r) S2 O2
theorem Vs.one{E:Nat->List Nat}{S O r e d b a:List Nat}(h:Vs E S O r e d)(c:Vs E S O r b a):e=b/\d=a:=by
 induction h generalizing b a with
 |nil S O=>cases c with|nil=>exact⟨rfl,rfl⟩
 | old h1 _ ih=>
   cases c with
   |old _ h3=>exact ih h3
   |new h3=>exact absurd h1 h3
 | new h1 _ _ ih1 ih2=>
   cases c with
   |old h3=>exact absurd h3 h1
   | new _ h3 h4=>obtain⟨rfl,rfl⟩:=ih1 h3;exact ih2 h4
theorem Vs.fK{E:Nat->List Nat}{S O r f d b e c:List Nat}(h:Vs E S O r d b)(a:Vs E d b f e c):Vs E S O (r++f) e c:=by
 induction h with
 |nil S O=>exact a
 |old h1 _ ih=>exact .old h1 (ih a)
 |new h1 h2 _ _ ih=>exact .new h1 h2 (ih a)
structure oy(E:Nat->List Nat)(S O r S' O' N:List Nat):Prop where
 o:O'=O++N
 seen:∀x,x∈S'↔x∈S\/x∈N
 nodup:N.Nodup
 fresh:∀x∈N,x∉S
 todo:∀x∈r,x∈S'
 closed:∀x∈N,∀y∈E x,y∈S'
 par:∀x∈N,x∈r\/∃p A B C,N=A++x::B++p::C/\x∈E p
 from_:∀x∈N,∃t∈r,ES E (· ∉S) t x
theorem Vs.told{E:Nat->List Nat}{S O r S' n:List Nat}(h:Vs E S O r S' n):∃N,oy E S O r S' n N:=by
 induction h with
 |nil S O=>exact⟨[],sP,sP,List.nodup_nil,sP,sP,sP,sP,sP⟩
 | @old S O r S' n b h1 _ ih=>
   obtain⟨N,t⟩:=ih;refine⟨N,t.o,t.seen,t.nodup,t.fresh, λx a=> ?_,t.closed, λx a=> ?_, λx a=> ?_⟩
   . rcases jK.1 a with rfl|a
     . exact(t.seen x).2 (.inl h1)
     exact t.todo x a
   . rcases t.par x a with h|h
     . exact .inl (kh _ h)
     exact .inr h
   obtain⟨y,v,w⟩:=t.from_ x a;exact⟨y,kh _ v,w⟩
 | @new S O r S1 O1 S2 O2 b h1 _ _ ih1 ih2=>
   obtain⟨j,f⟩:=ih1;obtain⟨k,c⟩:=ih2;have m:∀x,x∈S1↔x=b\/x∈S\/x∈j:= λx=>by rw[f.seen,jK,or_assoc]
   have s:∀x,x∈S2↔x=b\/x∈S\/x∈j\/x∈k:= λx=>by
    rw[c.seen,m];constructor
    . rintro((h|h|h)|h)
      . exact .inl h
      . exact .inr (.inl h)
      . exact .inr (.inr (.inl h))
      exact .inr (.inr (.inr h))
    rintro(h|h|h|h)
    . exact .inl (.inl h)
    . exact .inl (.inr (.inl h))
    . exact .inl (.inr (.inr h))
    exact .inr h
   have l:∀x,x∈j++b::k↔x=b\/x∈j\/x∈k:= λx=>by
    rw[jL,jK];constructor
    . rintro(h|h|h)
      . exact .inr (.inl h)
      . exact .inl h
      exact .inr (.inr h)
    rintro(h|h|h)
    . exact .inr (.inl h)
    . exact .inl h
    exact .inr (.inr h)
   refine⟨j++b::k,?_, λx=> ?_,?_, λx a=> ?_, λx a=> ?_, λx a y d=> ?_, λx a=> ?_, λx a=> ?_⟩
   . rw[c.o,f.o];simp
   . rw[s,l];constructor
     . rintro(h|h|h)
       . exact .inr (.inl h)
       . exact .inl h
       exact .inr (.inr h)
     rintro(h|h|h)
     . exact .inr (.inl h)
     . exact .inl h
     exact .inr (.inr h)
   . rw[mX];refine⟨f.nodup,List.nodup_cons.2 ⟨λh=>c.fresh b h ((m b).2 (.inl rfl)),c.nodup⟩, λx a y d e=> ?_⟩;subst e;rcases jK.1 d with rfl|d
     . exact f.fresh x a (kt ..)
     exact c.fresh x d ((m x).2 (.inr (.inr a)))
   . rcases(l x).1 a with rfl|h|h
     . exact h1
     . exact λq=>f.fresh x h (kh _ q)
     exact λq=>c.fresh x h ((m x).2 (.inr (.inl q)))
   . rcases jK.1 a with rfl|a
     . exact(s x).2 (.inl rfl)
     exact c.todo x a
   . rcases(l x).1 a with rfl|h|h
     . exact(c.seen y).2 (.inl (f.todo y d))
     . exact(c.seen y).2 (.inl (f.closed x h y d))
     exact c.closed x h y d
   . rcases(l x).1 a with rfl|h|h
     . exact .inl (kt ..)
     . rcases f.par x h with q|⟨p,A,B,C,g,i⟩
       . obtain⟨A,B,rfl⟩:=List.append_of_mem h;exact .inr ⟨b,A,B,k,sP,q⟩
       exact .inr ⟨p,A,B,C++b::k,by rw[g];simp,i⟩
     rcases c.par x h with q|⟨p,A,B,C,g,i⟩
     . exact .inl (kh _ q)
     exact .inr ⟨p,j++b::A,B,C,by rw[g];simp,i⟩
   rcases(l x).1 a with rfl|h|h
   . exact⟨x,kt ..,.here h1⟩
   . obtain⟨t,g,i⟩:=f.from_ x h;(have u:ES E (· ∉S) t x:=i.mono λy d q=>d (kh _ q));exact⟨b,kt ..,(ES.step (.here h1) g u.iq).trans u⟩
   obtain⟨t,g,i⟩:=c.from_ x h;exact⟨t,kh _ g,i.mono λy d q=>d ((m y).2 (.inr (.inl q)))⟩
theorem oy.iff{E:Nat->List Nat}{S O r S' a N:List Nat}(t:oy E S O r S' a N)(x:Nat):x∈N↔∃q∈r,ES E (· ∉S) q x:=by
 refine⟨t.from_ x,?_⟩;rintro⟨q,b,c⟩;induction c with
 |here h=>exact((t.seen _).1 (t.todo _ b)).resolve_left h
 |step _ d e f=>exact((t.seen _).1 (t.closed _ f _ d)).resolve_left e
def Br(S:List Nat)(n:Nat):Nat:=((List.range n).filter λi=> !S.contains i).length
theorem FW(S:List Nat)(n x:Nat)(g:x<n)(d:x∉S):Br (x::S) n+1=Br S n:=by
 unfold Br;induction n with
 |zero=>omega
 | succ n f=>
   rw[mR,lq,lq,jI,jI];by_cases e:x=n
   . subst e;(have b:(List.range x).filter (λi=> !(x::S).contains i)=(List.range x).filter (λi=> !S.contains i):=by apply List.filter_congr;intro i c;(have:i≠x:=by have:=k6.1 c;omega);simp[this]);rw[b];simp[d]
   have:=f oM;(have a:((x::S).contains n)=S.contains n:=by (have:¬n=x:= λq=>e q.symm);simp[this]);rw[mg,mg,a];simp only[nD];omega
theorem Ha(n:Nat):Br [] n=n:=by unfold Br;simp only[List.contains_nil,Bool.not_false];rw[List.filter_eq_self.2 (λa _=>rfl),mj]
theorem H6(L:List Nat)(n:Nat)(a:∀x∈L,x<n)(d:L.Nodup): ↑L+Br L n=n:=by
 induction L with
 |nil=>simp[Ha]
 | cons x L f=>obtain⟨b,c⟩:=List.nodup_cons.1 d;have:=f (λy e=>a y (kh _ e)) c;have:=FW L n x (a x (kt ..)) b;rw[lG];omega
def Ea(O:List Nat)(b:Nat):Nat:=O.reverse.idxOf b
theorem pq{b:Nat}(h:b∈O):Ea O b<O.length:=by have:b∈O.reverse:=kx.2 h;have:=mP.2 this;unfold Ea;simpa using this
theorem H9{b:Nat}(h:b∈O):O.reverse[Ea O b]?=K b:=by have a:b∈O.reverse:=kx.2 h;have c:=mP.2 a;unfold Ea;rw[an c,List.getElem_idxOf]
theorem T1{a b:Nat}(e:a∈O)(f:b∈O)(h:Ea O a=Ea O b):a=b:=by have c:=H9 e;have d:=H9 f;rw[h,d]at c;exact(jM c).symm
theorem VN{A B C:List Nat}{x p:Nat}(e:O.Nodup)(h:O=A++x::B++p::C):Ea O p<Ea O x:=by
 unfold Ea;subst h;have b:(A++x::B++p::C).reverse=C.reverse++p::(B.reverse++x::A.reverse):=sP;have f:(C.reverse++p::(B.reverse++x::A.reverse)).Nodup:=by rw[<-b];exact List.pairwise_reverse.2 (e.imp Ne.symm)
 rw[b];obtain⟨k,c,a⟩:=mX.1 f;obtain⟨d,l⟩:=List.nodup_cons.1 c;have g:p∉C.reverse:= λq=>a p q p (kt ..) rfl
 have j:x∉C.reverse:= λq=>a x q x sP rfl
 have i:p≠x:= λq=>d (by rw[q];simp)
 rw[List.idxOf_append,List.idxOf_append,jH g,jH j,nA,nA];have:(p==x)=false:=by simpa using i
 simp[this]
theorem DR{E:Nat->List Nat}{n:Nat}(k:0<n)(r:∀b,b<n->∀x∈E b,x<n){S:List Nat}(h:Vs E [] [] [0] S O)(w:∀b,b<n->b∈S):Fa E n (Ea O)/\O.Nodup/\ ↑O=n/\(∀x,x∈O↔x<n)/\O.reverse[0]?=K 0:=by
 obtain⟨N,t⟩:=h.told;obtain rfl:O=N:=by simpa using t.o
 have c:∀x,x∈O↔x<n:= λx=>by
  constructor
  . intro f;obtain⟨q,g,m⟩:=t.from_ x f;(have:q=0:=by simpa using g);subst this;exact m.lt r k
  intro f;have:=(t.seen x).1 (w x f);simpa using this
 have D: ↑O=n:=by
  have g:=H6 O n (λx f=>(c x).1 f) t.nodup;have:Br O n=0:=by unfold Br;rw[List.length_eq_zero_iff,List.filter_eq_nil_iff];intro a j;simp[(c a).2 (List.mem_range.1 j)]
  omega
 have z:∃l,O=l++[0]:=by
  cases h with
  |old g=>cases g
  | new _ m h3=>
    cases h3 with
    |nil=>exact⟨_,rfl⟩
 obtain⟨l,s⟩:=z;have i:O.reverse[0]?=K 0:=by rw[s];simp
 have u:Ea O 0=0:=by unfold Ea;rw[s];simp
 refine⟨⟨k,r,u, λb d i=> ?_, λa b j d=>T1 ((c a).2 j) ((c b).2 d), λb d y=> ?_⟩,t.nodup,D,c,i⟩
 . rcases Nat.eq_zero_or_pos (Ea O b)with e|e
   . exact absurd (T1 ((c b).2 d) ((c 0).2 k) (by rw[e,u])) i
   exact e
 rcases t.par b ((c b).2 d)with q|⟨p,A,B,C,v,F⟩
 . exact absurd (by simpa using q) y
 exact⟨p,(c p).1 (by rw[v];simp),F,VN t.nodup v⟩
section
variable {E:Nat->List Nat} {n:Nat} {pl:Nat->Nat} {b c d k:Nat}
theorem Ed.iy(E:Nat->List Nat)(d:Nat):Ed E d d:= λh=>h.jr rfl
theorem Ed.fO(h:Ed E d 0):d=0:=by
 by_cases e:d=0
 . exact e
 exact absurd (.here (Ne.symm e)) h
theorem Ed.gq(g:Fa E n pl)(k:b<n)(h:Ed E d b):ES E (λx=>pl d<=pl x) d b/\pl d<=pl b/\(d≠b->pl d<pl b):=by
 suffices ∀m b,pl b<=m->b<n->Ed E d b->ES E (λx=>pl d<=pl x) d b/\pl d<=pl b/\(d≠b->pl d<pl b)from this _ b lR k h
 intro m;induction m with
 | zero=>
   intro b j f c;by_cases e:d=b
   . subst e;exact⟨.here lR,Nat.le_refl _, λq=>absurd rfl q⟩
   by_cases a:b=0
   . subst a;exact absurd c.fO e
   have:=g.cz b f a;omega
 | succ m r=>
   intro b j f c;by_cases e:d=b
   . subst e;exact⟨.here lR,Nat.le_refl _, λq=>absurd rfl q⟩
   by_cases a:b=0
   . subst a;exact absurd c.fO e
   obtain⟨q,s,i,u⟩:=g.par b f a;(obtain⟨p,t,_⟩:=r q oM s λl=>c (.step l i (Ne.symm e)));exact⟨.step p i oM,oM, λ_=>oM⟩
theorem Ed.gm(a:Fa E n pl)(f:b<n)(g:d<n)(h:Ed E d b)(c:Ed E b d):d=b:=by
 by_cases e:d=b
 . exact e
 have:=(h.gq a f).2.2 e;have:=(c.gq a g).2.1;omega
def Hk(E:Nat->List Nat)(b c:Nat):Prop:=c≠b/\Ed E c b/\∀d,d≠b->Ed E d b->Ed E d c
theorem Hk.one(d:Fa E n pl){c':Nat}(e:c<n)(f:c'<n)(h:Hk E b c)(a:Hk E b c'):c=c':=Ed.gm d f e (a.2.2 c h.1 h.2.1) (h.2.2 c' a.1 a.2.1)
theorem Pf(a:Fa E n pl)(i:∀x,x<n->ES E (λ_=>True) 0 x)(g:b<n)(h:Ed E d b):d<n:=by
 by_cases e:d<n
 . exact e
 refine absurd ?_ h;have c:=i b g;clear h;induction c with
 |here _=>exact .here oM
 | step k l m j=>have f:=k.lt a.fQ a.pos;exact .step (j f) l oM
end
theorem QW(P Q:Nat->Bool)(n c:Nat)(h:∀k,k<n->P k=true->Q k=true)(d:c<n)(a:P c=false)(b:Q c=true):((List.range n).filter P).length<((List.range n).filter Q).length:=by
 have j:∀m,m<=n->((List.range m).filter P).length+(if c<m then 1 else 0)<=((List.range m).filter Q).length:=by
  intro m;induction m with
  |zero=>simp
  | succ m i=>
    intro l;have:=i oM;rw[mR,lq,lq,jI,jI];by_cases e:m=c
    . subst e;simp only[mg,a,b,nD];simp at this⊢;omega
    have f:(c<m+1)=(c<m):=oT;simp only[f];cases hp:P m with
    | false=>simp only[mg,hp,nD];simp only[nE,if_false,lH];omega
    | true=>have g:=h m oM hp;simp only[mg,hp,g,nD];simp only[if_true,lG,lH];omega
 have:=j n lR;rw[jP d]at this;omega
def Bq(E:Nat->List Nat)(n b:Nat):List Nat:=(List.range n).flatMap λp=>((E p).filter λx=>decide (x=b)).map λ_=>p
def AO(E:Nat->List Nat)(D:Nat->Nat->Bool)(n h:Nat):List Nat:=(List.range n).flatMap λp=>((E p).filter λx=>decide (x=h)&&D h p).map λ_=>p
theorem Di(E:Nat->List Nat)(n b p:Nat):p∈Bq E n b↔p<n/\b∈E p:=by
 simp only[Bq,lZ,k6,kI,lY,lC];constructor
 . rintro⟨q,a,x,⟨c,rfl⟩,rfl⟩;exact⟨a,c⟩
 rintro⟨a,c⟩;exact⟨p,a,b,⟨c,rfl⟩,rfl⟩
theorem Ht(E:Nat->List Nat)(n b:Nat):Kx E n b (Bq E n b):=Di E n b
theorem DN(E:Nat->List Nat)(D:Nat->Nat->Bool)(n h p:Nat):p∈AO E D n h↔p<n/\h∈E p/\D h p=true:=by
 simp only[AO,lZ,k6,kI,lY,ky,lC];constructor
 . rintro⟨q,a,x,⟨b,rfl,c⟩,rfl⟩;exact⟨a,b,c⟩
 rintro⟨a,b,c⟩;exact⟨p,a,h,⟨b,rfl,c⟩,rfl⟩
def AU(E:Nat->List Nat)(D:Nat->Nat->Bool)(n h x:Nat):Prop:=x=h\/∃t∈AO E D n h,ES (Bq E n) (· ≠h) t x
structure Gj(E:Nat->List Nat)(n:Nat)(bad:Nat->Nat->Prop)(b k x:Nat):Prop where
 lt:b<n
 at_:(E b)[k]?=K x
 is:bad b x
 less:∀b' k' x',b'<n->(E b')[k']?=K x'->b'<b\/(b'=b/\k'<k)->¬bad b' x'
theorem Gj.one{E:Nat->List Nat}{n:Nat}{bad:Nat->Nat->Prop}{b k x f c d:Nat}(h:Gj E n bad b k x)(a:Gj E n bad f c d):x=d:=by
 by_cases e:b=f
 . subst e;by_cases g:k=c
   . subst g;have i:=h.at_;rw[a.at_]at i;exact(jM i).symm
   rcases Nat.lt_or_gt_of_ne g with q|q
   . exact absurd h.is (a.less b k x h.lt h.at_ (.inr ⟨rfl,q⟩))
   exact absurd a.is (h.less b c d a.lt a.at_ (.inr ⟨rfl,q⟩))
 rcases Nat.lt_or_gt_of_ne e with q|q
 . exact absurd h.is (a.less b k x h.lt h.at_ (.inl q))
 exact absurd a.is (h.less f c d a.lt a.at_ (.inl q))
def PY(O:List Nat)(D:Nat->Nat->Bool)(b x:Nat):Prop:=Ea O x<=Ea O b/\¬D x b=true
theorem JM(h:q:=by go_enter func131,ntmps131;go_wp2;go_ret;exact⟨rfl,(jZ _ _).alloc lR _⟩):q:=h
theorem CD(x:MI)(w:Y):Ai Aq 131 #[.agg #[x.op,x.a,x.b,x.c]] w λe k=>e=Am (Bv x)/\Ah w w k:=by
 by_cases d:x.op=25
 . (have e:Bv x=true:=by simp[Bv,d]);rw[e,d];exact JM
 by_cases f:x.op=26
 . (have e:Bv x=true:=by simp[Bv,f]);rw[e,f];exact JM
 by_cases g:x.op=27
 . (have e:Bv x=true:=by simp[Bv,g]);rw[e,g];exact JM
 have e:Bv x=false:=by simp[Bv,d,f,g]
 have h:(x.op==25)=false:=by simpa using d
 have i:(x.op==26)=false:=by simpa using f
 have j:(x.op==27)=false:=by simpa using g
 rw[e];generalize x.op=op at d f g h i j;exact JM
theorem M3(h:q:=by go_enter func22,ntmps22;go_wp2;go_ret;exact⟨rfl,(jZ _ _).alloc lR _⟩):q:=h
theorem Md(x:MI)(w:Y):Ai Aq 22 #[.agg #[x.op,x.a,x.b,x.c]] w λe i=>e=Am (Ij x)/\Ah w w i:=by
 by_cases d:x.op=25
 . (have e:Ij x=false:=by simp[Ij,d]);rw[e,d];exact M3
 by_cases f:x.op=29
 . (have e:Ij x=false:=by simp[Ij,f]);rw[e,f];exact M3
 have e:Ij x=true:=by simp[Ij,d,f]
 have g:(x.op != 25)=true:=by simpa using d
 have h:(x.op != 29)=true:=by simpa using f
 rw[e];generalize x.op=op at d f g h;exact M3
theorem M4(h:q:=by rw[e];go_enter func48,ntmps48;go_wp2;go_ret;exact⟨rfl,rfl⟩):q:=h
theorem Oc(z:Int)(c:Nat)(w:Y)(f:(c:Int)<=1048576):Ai Aq 48 #[z,c] w λe d=>e=Am (.bool (decide (0<=z/\z<(c:Int))))/\d=w:=by
 by_cases a:0<=z
 . by_cases b:z<(c:Int)
   . have e:decide (0<=z/\z<(c:Int))=true:=by simp[a,b]
     exact M4
   have e:decide (0<=z/\z<(c:Int))=false:=by simp[a,b]
   exact M4
 have e:decide (0<=z/\z<(c:Int))=false:=by simp[a]
 exact M4
theorem Fe:Go.Maps.Keyed Aq 2:=Go.Maps.int_keyed underlying2
def AP(w:Y)(b a:Nat)(D:DataW Unit):Prop:=w.ownsMap Aq 2 (unitElem (H:=Unit)) b a D
theorem Dh(b a g c:Nat)(D:DataW Unit)(z:Int)(w:Y)(p:Fb z)(s:a<=1048576)(r:w g=K ↑z)(t:¬g=b)(h:AP w b a D):
 Ai Aq 59 #[.map (K b),Z g 1 c] w λe l=>e=Am (.tuple #[])/\AP l b (a+1) (D.put (.int Af z) (.agg []))/\w.grownBy l (K b):=by
 have H:Ae (AP w b a D):=h;clear h;go_enter func59,ntmps59;go_wp2;go_loopw [8] (λi wr=>∃k:Nat,k<=1/\i=.int Af k/\((k=0/\wr=w)\/(k=1/\Ae (AP wr b (a+1) (D.put (.int Af z) (.agg []))/\w.grownBy wr (K b))))) (λi _=>1-(intOf i).toNat)
 case atStart=>exact⟨0,oM,rfl,.inl ⟨rfl,rfl⟩⟩
 obtain⟨k,u,rfl,n⟩:=hrel;rcases n with⟨rfl,rfl⟩|⟨rfl,d⟩
 . rw[show((0:Nat):Int)=0 from rfl];go_wp2_with (at_mapUpdate;refine wpList_mapUpdate_own _ rfl _ _ _ 164 rfl 2 89 Fe underlying164 (unitElem (H:=Unit)) b a D rfl H oX _ _ _ rfl rfl (mE underlying2 p) _ [] unitElem_mk ?_;intro q j f);have m:Ae (AP q b (a+1) (D.put (.int Af z) (.agg []))/\_):=⟨j,f⟩
   clear j f;go_wp2;go_roundw;(case rel=>exact⟨1,oM,by go_num,.inr ⟨rfl,m⟩⟩);simp[intOf]
 rw[show((1:Nat):Int)=1 from rfl];go_wp2;go_end0;exact⟨rfl,d.1,d.2⟩
theorem RL(g cap:Nat)(zs:List Int)(w:World)(hH:Go.Sort.Holds (Value.int .i64) w g 0 zs.toArray)(hb:g<w.heap.size)(hl:zs.length<4611686018427387904):
 Calls Tryz.prog 64 #[.slice (some ⟨g,0,none⟩) zs.length cap] w λe w'=>e=.returned (.tuple #[])/\∃n os,w'=Go.Sort.grow (Go.Sort.putRow (Value.int .i64) (Go.Sort.ahead w n) g 0 (zs.mergeSort λx y=>decide (x<=y)).toArray) os:=by
 have h:=AnyG.slices_Sort_int Tryz.lSort g 0 cap zs w hH hb hl;exact h
def Bz(fs:List MF):Prop:=¬fs.length=0/\fs.length<=32/\(∀j,j<fs.length->∀f,fs[j]?=K f->Cj f)/\∀f,fs[0]?=K f->Wx f
theorem Nn(s:J)(fs:List MF)(w:Y)(hL:fs.length<=1048576)(hs:∀f∈fs,f.small)(h:Qi w s fs):
 Ai Aq 122 #[s] w λe w'=>AM e (Bz fs)/\Ah w.heap.size w w':=by
 obtain⟨xs,T,S,aq⟩:=h;have ax:xs.length=fs.length:=by rw[<-T];simp
 have d:=Aw (fd S (fd T (fd aq (fd hs ax))));obtain⟨a1,c1,rfl⟩:=S.aP;generalize aa:fs.length=n at hL d;have y:=Aw aa;by_cases D:n=0
 . subst D;(have r:Ae (¬Bz fs):= λe=>e.1 y);go_enter func122,ntmps122;go_wp2;go_ret;exact⟨.no r,jZ _ _⟩
 have aG:((n:Int)==0)=false:=by simpa using D
 by_cases q1:32<n
 . (have r:Ae (¬Bz fs):= λe=>absurd e.2.1 (by rw[y];omega));have aA:(32:Int)<(n:Int):=oM;go_enter func122,ntmps122;go_wp2;go_ret;exact⟨.no r,jZ _ _⟩
 have aA:¬(32:Int)<(n:Int):=oM;go_enter func122,ntmps122;go_wp2;go_loopw [15] (λi wr=>∃k:Nat,k<=n/\i=iZ k/\Ae (∀j,j<k->∀f,fs[j]?=K f->Cj f)/\Ae (Ah w w wr)) (λi _=>n-(intOf i).toNat)
 case atStart=>exact⟨0,oM,rfl, λj hj=>oM,jZ _ _⟩
 obtain⟨k,hk,rfl,G,l⟩:=hrel;by_cases Q:k<n
 . obtain⟨⟨f,v⟩,p⟩:∃x,xs[k]?=K x:=⟨_,an (by rw[d.2.2.2.2];exact Q)⟩;have m:=Ga d.2.1 p;have a:=Aw (fd ((d.2.2.1 _ (hC p)).av l lR) (fd (d.2.2.2.1 _ (hC m)) m));rcases d.1.2 with⟨e0,_⟩|⟨b,o,c,m,t⟩
   . omega
   simp only[i8,kW]at m;obtain⟨rfl,rfl⟩:=m;have i0:=Rd.elem AK t k _ p 0 _ rfl;have q:=Rd.elem AK t k _ p 1 _ rfl;have B:=Rd.elem AK t k _ p 2 _ rfl;have C:=Rd.elem AK t k _ p 3 _ rfl;rw[<-l.cell (i7 i0),jV]at i0;rw[<-l.cell (i7 q)]at q;rw[<-l.cell (i7 B)]at B;rw[<-l.cell (i7 C)]at C;simp only[]at i0 q B C;obtain⟨H,I,z⟩:=a.1.1.aP;obtain⟨al,cl,N⟩:=a.1.2.1.aP;obtain⟨ac,cc,L⟩:=a.1.2.2.aP;obtain⟨vp,vl,vc⟩:=v;simp only[]at z N L i0 q B C;subst z N L;have nb:¬b=wr.heap.size:=lL (i7 i0);have mb:b<wr.heap.size:=i7 i0;go_wp2_with fail;(have V:= λW (hW:Ah wr wr W)=>Nm ⟨Z H f.aD I,Z al f.a7 cl,Z ac f.aU cc⟩ f W a.2.1 (a.1.av hW lR));refine(V _ (Al _ _)).mono ?_;rintro e u ⟨⟨b0,rfl,O⟩,aj⟩;have F:Ae (Ah w w u):=Ar l lR (Ar (Al _ _) lR aj);cases b0
   . (have r:Ae (¬Bz fs):= λe=>by have:=e.2.2.1 k (by rw[y];exact Q) f a.2.2;simp[this]at O);go_wp2;go_ret;exact⟨.no r,F⟩
   have X:Ae (Cj f):=O.1 rfl;go_wp2;go_roundw;(case rel=>exact⟨k+1,oM,by go_num,GH a.2.2 X G,F⟩);exact oI
 have au:n=k:=oM;subst au;obtain⟨⟨f,v⟩,p⟩:∃x,xs[0]?=K x:=⟨_,an (by rw[d.2.2.2.2];omega)⟩;have m:=Ga d.2.1 p;have a:=Aw (fd ((d.2.2.1 _ (hC p)).av l lR) (fd (d.2.2.2.1 _ (hC m)) m));rcases d.1.2 with⟨e0,_⟩|⟨b,o,c,m,t⟩
 . omega
 simp only[i8,kW]at m;obtain⟨rfl,rfl⟩:=m;have i0:=Rd.elem AK t 0 _ p 0 _ rfl;have q:=Rd.elem AK t 0 _ p 1 _ rfl;rw[<-l.cell (i7 i0)]at i0;simp only[Nat.zero_mul,jV]at i0;rw[<-l.cell (i7 q),Nat.zero_mul,jV]at q;obtain⟨H,I,z⟩:=a.1.1.aP;obtain⟨vp,vl,vc⟩:=v;simp only[]at z i0 q;subst z;have HM:Ae (Bz fs↔Wx f):=by show _↔_;refine⟨λe=>e.2.2.2 f a.2.2, λe=>⟨by rw[y];exact D,by rw[y];omega,by rw[y];exact G, λg P=> ?_⟩⟩;rw[a.2.2]at P;exact(jM P)▸e
 have aF:=a.2.1.1;generalize ae:f.aD.length=U at*;generalize ai:f.cu=R at*;have A:=Aw (fd ae ai);have aE:(0:Int)<(n:Int):=oM;by_cases E:U=0
 . subst E;(have HY:Ae ((R==0)=true↔Bz fs):=by show _↔_;rw[HM.o,beq_iff_eq];exact⟨λe=>⟨A.1,A.2.trans e⟩, λe=>A.2.symm.trans e.2⟩);go_wp2;go_ret;exact⟨.of HY,l⟩
 have aH:((U:Int)==0)=false:=by simpa using E
 have r:Ae (¬Bz fs):= λe=>E (A.1.symm.trans (HM.1 e).1)
 go_wp2;go_ret;exact⟨.no r,l⟩
def EU(q:MC->Int->Prop)(a:List MC)(ts:List Int):Prop:=a.length=ts.length/\∀j,j<a.length->∀v,a[j]?=K v->∀t,ts[j]?=K t->q v t
theorem KK(q:MC->Int->Prop)(Q:∀(x:MC) (t:Int) (w:Y),0<=x.word->Ai Aq 117 #[An #[Ag Af x.type,Ag .u32 x.word],Ag Af t] w λe r=>AM e (q x t)/\Ah w w r)
 (s s':J) (a:List MC) (ts:List Int) (w:Y) (hL:a.length<=1048576) (aa:ts.length<=1048576) (hw:∀x∈a,0<=x.word) (h:Rd w 2 s a (Ad MC.cells a)) (C:Rd w 1 s' ts (Ad As ts)):
 Ai Aq 116 #[s,s',.func (.func 117) #[] #[]] w λe r=>AM e (EU q a ts)/\Ah w w r:=by
 have z:Ae (Rd w 2 s a (Ad MC.cells a)/\∀x∈a,0<=x.word):=⟨h,hw⟩
 have A:Ae (Rd w 1 s' ts (Ad As ts)):=C;have V:Ae (∀(x:MC) (t:Int) (w:Y),0<=x.word->Ai Aq 117 #[An #[Ag Af x.type,Ag .u32 x.word],t] w λe r=>AM e (q x t)/\Ah w w r):=Q
 obtain⟨a1,c1,rfl⟩:=h.aP;obtain⟨a2,c2,rfl⟩:=C.aP;clear h C hw Q;by_cases l:a.length= ↑ts
 . rw [<-l]at A⊢;clear aa;generalize R:a.length=n at hL z A l;have f:Ae (↑a=n/\ ↑ts=n):=⟨R,l.symm⟩
   clear R l;go_enter func116,ntmps116;go_wp2;go_loopw [17] (λi wr=>∃k:Nat,k<=n/\i=Ag Af k/\Ae (∀j,j<k->∀v,a[j]?=K v->∀t,ts[j]?=K t->q v t)/\Ae (Ah w w wr)) (λi _=>n-(intOf i).toNat)
   (case atStart=>exact⟨0,oM,rfl, λj hj=>oM,jZ _ _⟩);obtain⟨k,hk,rfl,L,d⟩:=hrel;by_cases E:k<n
   . obtain⟨x,m⟩:∃x,a[k]?=K x:=⟨_,an (by rw[f.1];exact E)⟩;obtain⟨t,ht⟩:∃x,ts[k]?=K x:=⟨_,an (by rw[f.2];exact E)⟩;rcases z.1.2 with⟨e0,_⟩|⟨b,o,c,O,D⟩
     . omega
     rcases A.2 with⟨e0,_⟩|⟨N,o',c',P,T⟩
     . omega
     simp only[i8,kW]at O P;obtain⟨rfl,rfl⟩:=O;obtain⟨rfl,rfl⟩:=P;have i0:=Rd.elem MC.bW D k _ m 0 _ rfl;have H:=Rd.elem MC.bW D k _ m 1 _ rfl;have p:=Rd.elem AE T k _ ht 0 _ rfl;rw[<-d.cell (i7 i0),jV]at i0;rw[<-d.cell (i7 H)]at H;rw[<-d.cell (i7 p),lJ,jV]at p;have g:Ae (x∈a/\a[k]?=K x/\ts[k]?=K t):=⟨hC m,m,ht⟩
     have nb:¬b=wr.heap.size:=lL (i7 i0);have mb:b<wr.heap.size:=i7 i0;have aj:¬N=wr.heap.size:=lL (i7 p);have ai:N<wr.heap.size:=i7 p;clear D T m ht;go_wp2_with fail;refine(V.o x t _ (z.2 x g.1)).mono ?_;rintro e u ⟨⟨b0,rfl,y⟩,S⟩;have I:Ae (Ah w w u):=Ar (Ar d lR (Al _ _)) lR S;clear S d i0 H p nb mb aj ai;cases b0
     . (have B:Ae (¬EU q a ts):= λe=>absurd (y.2 (e.2 k (by rw[f.1];exact E) x g.2.1 t g.2.2)) lF);clear y;go_wp2;go_ret;exact⟨.no B,I⟩
     have U:Ae (q x t):=y.1 rfl;clear y;have W:Ae (∀j,j<k+1->∀v,a[j]?=K v->∀t,ts[j]?=K t->q v t):= λj hj v G t' F=>by
      by_cases e:j=k
      . subst e;rw[g.2.1]at G;rw[g.2.2]at F;obtain rfl:=jM G;obtain rfl:=jM F;exact U
      exact L.o j oM v G t' F
     go_wp2;go_roundw;(case rel=>exact⟨k+1,oM,by go_num,W,I⟩);exact oI
   have ae:n=k:=oM;subst ae;have X:Ae (EU q a ts):=⟨by rw[f.1,f.2],by rw[f.1];exact L⟩;go_wp2;go_ret;exact⟨.fk X,d⟩
 have B:Ae (¬EU q a ts):= λe=>l e.1
 have aq:¬(a:Int)=(ts:Int):=oM;go_enter func116,ntmps116;go_wp2;go_ret;exact⟨.no B,jZ _ _⟩
end Go.Proofs.YtkgohaigebcgoaaGreatDoor
