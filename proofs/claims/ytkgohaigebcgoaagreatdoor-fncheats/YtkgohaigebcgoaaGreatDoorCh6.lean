import Derived.Test.YtkgohaigebcgoaaGreatDoorCh5
import Derived.Maps.RangeWalk
import Derived.Sort.KeysCollected
import Derived.Shelf.SlSortCmp.WholeK
import Derived.Ground.SlsfProg
namespace Go.Proofs
open Go.Shelf
def Tryz.lSortF_ren:Go.Shelf.Ren:=⟨λ |6=>204|15=>138|14=>210|28=>179|29=>180|20=>212|21=>213|22=>214|23=>215|24=>216|25=>217|26=>218|27=>219|46=>220|47=>197|48=>198|49=>221|50=>222|57=>223|n=>n, λ |22=>59|24=>65|25=>283|3=>3|39=>216|0=>0|53=>29|55=>267|4=>4|46=>272|45=>271|50=>159|5=>5|9=>9|66=>285|70=>289|76=>297|77=>298|n=>n, λ |n=>n⟩
theorem Tryz.lSortF:Go.Proofs.SlLaysF0.n6 Tryz.prog Tryz.lSortF_ren:={
 mixed:=by kernel_rfl
 f6:=⟨Tryz.f204.name,by decide,Tryz.func204.trans (congrArg some (by kernel_rfl))⟩
 f14:=⟨Tryz.f210.name,by decide,Tryz.func210.trans (congrArg some (by kernel_rfl))⟩
 f15:=Tryz.func138.trans (congrArg some (by kernel_rfl))
 f20:=⟨Tryz.f212.name,by decide,Tryz.func212.trans (congrArg some (by kernel_rfl))⟩
 f21:=⟨Tryz.f213.name,by decide,Tryz.func213.trans (congrArg some (by kernel_rfl))⟩
 f22:=⟨Tryz.f214.name,by decide,Tryz.func214.trans (congrArg some (by kernel_rfl))⟩
 f23:=⟨Tryz.f215.name,by decide,Tryz.func215.trans (congrArg some (by kernel_rfl))⟩
 f24:=⟨Tryz.f216.name,by decide,Tryz.func216.trans (congrArg some (by kernel_rfl))⟩
 f25:=⟨Tryz.f217.name,by decide,Tryz.func217.trans (congrArg some (by kernel_rfl))⟩
 f26:=⟨Tryz.f218.name,by decide,Tryz.func218.trans (congrArg some (by kernel_rfl))⟩
 f27:=⟨Tryz.f219.name,by decide,Tryz.func219.trans (congrArg some (by kernel_rfl))⟩
 f28:=Tryz.func179.trans (congrArg some (by kernel_rfl))
 f29:=Tryz.func180.trans (congrArg some (by kernel_rfl))
 f46:=⟨Tryz.f220.name,by decide,Tryz.func220.trans (congrArg some (by kernel_rfl))⟩
 f47:=Tryz.func197.trans (congrArg some (by kernel_rfl))
 f48:=Tryz.func198.trans (congrArg some (by kernel_rfl))
 f49:=⟨Tryz.f221.name,by decide,Tryz.func221.trans (congrArg some (by kernel_rfl))⟩
 f50:=⟨Tryz.f222.name,by decide,Tryz.func222.trans (congrArg some (by kernel_rfl))⟩
 f57:=⟨Tryz.f223.name,by decide,Tryz.func223.trans (congrArg some (by kernel_rfl))⟩
 t0:=Tryz.underlying0
 a0:=Tryz.isAgg0
 z0:=Tryz.sizeOf0
 v0:=Tryz.zeroValue0
 t3:=Tryz.underlying3
 a3:=Tryz.isAgg3
 z3:=Tryz.sizeOf3
 v3:=Tryz.zeroValue3
 t4:=Tryz.underlying4
 a4:=Tryz.isAgg4
 z4:=Tryz.sizeOf4
 v4:=Tryz.zeroValue4
 t5:=Tryz.underlying5
 a5:=Tryz.isAgg5
 z5:=Tryz.sizeOf5
 v5:=Tryz.zeroValue5
 t9:=Tryz.underlying9
 a9:=Tryz.isAgg9
 z9:=Tryz.sizeOf9
 v9:=Tryz.zeroValue9
 t22:=Tryz.underlying59
 a22:=Tryz.isAgg59
 z22:=Tryz.sizeOf59
 v22:=Tryz.zeroValue59
 t25:=Tryz.underlying283
 a25:=Tryz.isAgg283
 z25:=Tryz.sizeOf283
 v25:=Tryz.zeroValue283
 t39:=Tryz.underlying216
 a39:=Tryz.isAgg216
 z39:=Tryz.sizeOf216
 v39:=Tryz.zeroValue216
 t45:=Tryz.underlying271
 a45:=Tryz.isAgg271
 z45:=Tryz.sizeOf271
 v45:=Tryz.zeroValue271
 t46:=Tryz.underlying272
 a46:=Tryz.isAgg272
 z46:=Tryz.sizeOf272
 v46:=Tryz.zeroValue272
 t50:=Tryz.underlying159
 a50:=Tryz.isAgg159
 z50:=Tryz.sizeOf159
 v50:=Tryz.zeroValue159
 t53:=Tryz.underlying29
 a53:=Tryz.isAgg29
 z53:=Tryz.sizeOf29
 v53:=Tryz.zeroValue29
 t55:=Tryz.underlying267
 a55:=Tryz.isAgg267
 z55:=Tryz.sizeOf267
 v55:=Tryz.zeroValue267
 t66:=Tryz.underlying285
 a66:=Tryz.isAgg285
 z66:=Tryz.sizeOf285
 v66:=Tryz.zeroValue285
 t70:=Tryz.underlying289
 a70:=Tryz.isAgg289
 z70:=Tryz.sizeOf289
 v70:=Tryz.zeroValue289
 t76:=Tryz.underlying297
 a76:=Tryz.isAgg297
 z76:=Tryz.sizeOf297
 v76:=Tryz.zeroValue297
 t77:=Tryz.underlying298
 a77:=Tryz.isAgg298
 z77:=Tryz.sizeOf298
 v77:=Tryz.zeroValue298}
end Go.Proofs
namespace Go.Proofs.YtkgohaigebcgoaaGreatDoor
open Go.ChangeShapes Go.WideShapes Go.ChangeAt Go.RowKit Go.Proofs.Tryz
set_option linter.unusedVariables false
open Go.Value renaming slice → Z,int → Ag
open Option renaming some → K,none → M
open Go renaming World → Y,Calls → Ai,Value → J,TypeId → Aj
open Go.RowKit renaming Hid → Ae,Below → Ah
open Go.IntKind renaming i64 → Af
open Go.Proofs.Tryz renaming prog → Aq
open List renaming flatMap → Ad
open Go.Obj renaming cells → Ak
open Go.Ending renaming returned → Am
open Go.World renaming ownsRow → Ab,setCell → Aa,alloc → Ac
set_option maxHeartbeats 4000000
set_option maxRecDepth 100000
variable {t:Int}{v:VS}{u w:Y}{e:Aj}{j i:Nat}{l:List Nat}{xs:List MI}{L:Nat->Nat->Bool}{ts:List MT}{C:Nat->Int}
structure GA(xs:List Int)(c:Int):Prop where
 low:0<=c
 jy:c<(xs:Int)
 jK:bits .and Af c (c+1)=0
 one:∀j:Nat,(j:Int)<=c->xs[j]?=xs[0]?
theorem Iz(B:Option Addr)(c1:Nat)(xs:List Int)(c:Int)(w:Y)(N:xs.length<=1048576)(I: ↑xs<=c1)(h:Rd w 1 (Z B xs c1) xs (Ad At xs)):
 Ai Aq 185 #[Z B xs c1,c] w λe S=>AM e (GA xs c)/\Ah w w S:=by
 have f:=Aw h;clear h;generalize D:xs.length=n at N I f;have l:=Aw D;clear D;by_cases d:0<=c/\c<(n:Int)
 . have b :decide (0<=c/\c<(n:Int))=true:=decide_eq_true d
   obtain⟨c,rfl⟩:=mJ d.1;have U:c<n:=oM;clear d;by_cases q:bits .and Af (c:Int) ((c:Int)+1)=0
   . have HM:Ae (bits .and Af (c:Int) ((c:Int)+1)=0):=q;obtain⟨y,t⟩:∃y,xs[0]?=K y:=⟨_,an (by rw[l];omega)⟩;rcases f.2 with⟨T,_⟩|⟨g,o,cc,C,r⟩
     . omega
     simp only[lU,mj]at C;obtain⟨rfl,rfl⟩:=C;have P:=Rd.elem AE r 0 y t 0 _ rfl;simp only[Nat.zero_mul,mL]at P;have F:=Aw r;have A:=Aw t;clear r t;go_enter func185,ntmps185;go_wp2_with fail;refine(A6 (c:Int) (n:Int) _).mono ?_;rintro e u ⟨rfl,rfl⟩;rw[b];have Q:(c:Int)+1<=(c1:Int):=oM;have R:(0:Int)<=(c:Int)+1:=oM;have k3:(0:Int)<(n:Int):=oM;have k4:((c:Int)+1).toNat=c+1:=oM;go_wp2;clear Q R b q;go_loopw [24] (λi wr=>∃k:Nat,k<=c+1/\i=iZ k/\Ae (∀j,j<k->xs[j]?=K y)/\∃m,wr=u.drewN m) (λi _=>c+1-(intOf i).toNat)
     (case atStart=>exact⟨0,oM,rfl, λj E=>oM,0,rfl⟩);obtain⟨k,V,rfl,v,m,rfl⟩:=hrel;by_cases W:k<c+1
     . obtain⟨x,s⟩:∃x,xs[k]?=K x:=⟨_,an (by rw[l];omega)⟩;have O:=Rd.elem AE F k x s 0 _ rfl;rw[nX,mL]at O;have z:=Aw s;clear s;have X:(k:Int)<(c:Int)+1:=oM;by_cases p:x=y
       . subst p;have G:Ae (∀j,j<k+1->xs[j]?=K x):= λj E=>by
          by_cases e:j=k
          . rw[e];exact z
          exact v.o j oM
         go_wp2;go_roundw;(case rel=>exact⟨k+1,oM,by go_num,G,_,rfl⟩);exact oI
       (have a:Ae (¬GA xs c):= λe=>by have:=e.one k oM;rw[z,A]at this;exact p (mD this));(have aa:(x==y)=false:=by simpa using p);(have ae:(x != y)=true:=by simpa using p);go_wp2;go_ret;exact⟨.no a,AL _ _ _⟩
     have L:k=c+1:=oM;subst L;have H:Ae (GA xs c):=⟨oM,by rw[l];omega,HM, λj E=>by rw[A];exact v.o j oM⟩;go_wp2;go_ret;exact⟨.iQ H,AL _ _ _⟩
   (have a:Ae (¬GA xs c):= λe=>q e.jK);(have ai:(bits .and Af (c:Int) ((c:Int)+1)==0)=false:=by simpa using q);clear f;go_enter func185,ntmps185;go_wp2_with fail;refine(A6 (c:Int) (n:Int) _).mono ?_;rintro e u ⟨rfl,rfl⟩;rw[b];go_wp2;go_ret;exact⟨.no a,mP _ _⟩
 have a:Ae (¬GA xs c):= λe=>d ⟨e.low,by have:=e.jy;rw[l]at this;exact this⟩
 have b:decide (0<=c/\c<(n:Int))=false:=nC d
 clear f;go_enter func185,ntmps185;go_wp2_with fail;refine(A6 c (n:Int) _).mono ?_;rintro e u ⟨rfl,rfl⟩;rw[b];go_wp2;go_ret;exact⟨.no a,mP _ _⟩
theorem Qq(c:Nat)(w:Y):(binOp .eql 27 (Z M 0 c) (Z M 0 0)).run Aq w=.ok true w:=kR
theorem OZ(ad:Addr)(m c:Nat)(w:Y):(binOp .eql 27 (Z (K ad) m c) (Z M 0 0)).run Aq w=.ok false w:=kR
theorem Ku(s:J)(m:Nat)(xs:List J)(w:Y)(O:m<=1048576)(t:∀u∈xs,u.oneCell'=true)(h:Rd w 1 s m xs):
 Ai Aq 38 #[s] w λe d=>∃a c,e=Am (Z a m c)/\Ab d w 2 1 (Z a m c) m xs/\Ah w w d:=by
 obtain⟨N,E,H,I,L⟩:=nE Ct;have f:Ae (Ah w w (w.alloc (Ak #[] 2))):=Al _ _;have HO:Ae ((w.alloc (Ak #[] 2)).ownsRow w 2 1 (Z w 0 0) 0 []):=⟨rfl,.inr ⟨w,0,#[],rfl,Nat.le_refl _,oe _ _,Nat.le_refl _,oC _,rfl,sP⟩⟩;obtain⟨A,c1,rfl⟩:=h.aD;cases A with
 | none=>
   have G:m=0:=by
    rcases h.2 with⟨l,_⟩|⟨g,o,c,k,_⟩
    . exact l
    cases k
   subst G;have p:xs=[]:=mG (by have:=h.1;simpa using this);subst p;have z:Ae (w.ownsRow w 2 1 (Z M 0 0) 0 []):=mX _ _ _ _;(have C:∀w,_:= λw=>Qq c1 w);clear h;go_enter func38,ntmps38;go_wp2;go_ret;exact⟨_,_,rfl,z,mP _ _⟩
 | some ad=>
   have y:Ae (∀j u,xs[j]?=K u->(w.alloc (Ak #[] 2)) (ad.add j)=K u):= λj u b=>by
    rcases h.2 with⟨l,_⟩|⟨g,o,c,k,D⟩
    . have p:xs=[]:=mG (by have:=h.1;rw[l]at this;simpa using this);rw[p]at b;simp at b
    simp only[lU,lX]at k;obtain⟨rfl,_,_⟩:=k;have:=D j u b;rw[Cq,f.cell (lT this)];exact this
   have r:Ae (↑xs=m*1/\∀u∈xs,u.oneCell'=true):=⟨h.1,t⟩
   (have C:∀w,_:= λw=>OZ ad m c1 w);clear h t;go_enter func38,ntmps38;go_wp2_with (at_builtin;refine wpList_append_own _ rfl _ _ 27 rfl w 2 N (Ag Af 0) 1 8 underlying27 E H I L rfl dC _ 0 [] rfl HO ad m c1 xs rfl ?c1 ?c2 ?c3 ?c4 ?c5 ?c6 ?_);(case c1=>exact r.1);(case c2=>exact y);(case c3=>exact r.2);(case c4=>unfold maxLen;omega);(case c5=>omega);(case c6=>exact f.size);intro v' d n v F;(obtain⟨B,c2,rfl⟩:∃a c,v'=Z a m c:=by have:=(Rd.eP n).aD;simpa using this);have q:Ae (Ab d w 2 1 (Z B m c2) m xs/\Ah w w d):=⟨by simpa using n,f.grown v f.size (λj b=>(HO.lt j b).1)⟩
   clear n v F;go_wp2;go_ret;exact⟨_,_,rfl,q.1,q.2⟩
theorem WT(s t:Int)(w:Y):Ai Aq 254 #[s,t] w λe h=>AM e (t=0\/s=t)/\Ah w w h:=by
 by_cases b:t=0
 . (have g:(t==0)=true:=by simpa using b);have d:Ae (t=0):=b;clear b;go_enter func254,ntmps254;go_wp2;go_ret;exact⟨.iQ (.inl d),mP _ _⟩
 have g:(t==0)=false:=by simpa using b
 have d:Ae (¬t=0):=b;clear b;by_cases a:s=t
 . (have f:(s==t)=true:=by simpa using a);have c:Ae (s=t):=a;clear a;go_enter func254,ntmps254;go_wp2;go_ret;exact⟨.iQ (.inr c),mP _ _⟩
 have f:(s==t)=false:=by simpa using a
 have c:Ae (¬s=t):=a;clear a;go_enter func254,ntmps254;go_wp2;go_ret;exact⟨.no (λe=>e.elim d c),mP _ _⟩
theorem WP{a b:List Int}{k:Nat}{s:Int}(c:a[k]?=K s)(d:b[k]?=K t)(h:¬(t=0\/s=t)):¬CX a b=true:= λe=>h ((N5 (N6 e)).1 e k s t c d)
theorem LO(s s':J)(a ts:List Int)(w:Y)(X:a.length<=1048576)(aa:ts.length<=1048576)(h:Rd w 1 s a (Ad At a))(y:Rd w 1 s' ts (Ad At ts)):
 Ai Aq 253 #[s,s',.func (.func 254) #[] #[]] w λe w'=>AM e (CX a ts=true)/\Ah w w w':=by
 have E:Ae (Rd w 1 s a (Ad At a)):=h;have q:Ae (Rd w 1 s' ts (Ad At ts)):=y;obtain⟨a1,c1,rfl⟩:=h.aD;obtain⟨a2,c2,rfl⟩:=y.aD;clear h y;by_cases g:a.length= ↑ts
 . rw [<-g]at q⊢;clear aa;generalize L:a.length=n at X E q g;have f:Ae (↑a=n/\ ↑ts=n):=⟨L,g.symm⟩
   clear L g;go_enter func253,ntmps253;go_wp2;go_loopw [17] (λi wr=>∃k:Nat,k<=n/\i=Ag Af k/\Ae (∀(j:Nat),j<k->∀v,a[j]?=K v->∀t,ts[j]?=K t->t=0\/v=t)/\Ae (Ah w w wr)) (λi _=>n-(intOf i).toNat)
   (case atStart=>exact⟨0,oM,rfl, λj hj=>oM,mP _ _⟩);obtain⟨k,hk,rfl,G,d⟩:=hrel;by_cases Q:k<n
   . obtain⟨x,B⟩:∃x,a[k]?=K x:=⟨_,an (by rw[f.1];exact Q)⟩;obtain⟨t,l⟩:∃x,ts[k]?=K x:=⟨_,an (by rw[f.2];exact Q)⟩;rcases E.2 with⟨W,_⟩|⟨b,o,c,H,O⟩
     . omega
     rcases q.2 with⟨W,_⟩|⟨b',o',c',I,P⟩
     . omega
     simp only[lU,mj]at H I;obtain⟨rfl,rfl⟩:=H;obtain⟨rfl,rfl⟩:=I;have C:=Rd.elem AE O k _ B 0 _ rfl;have D:=Rd.elem AE P k _ l 0 _ rfl;rw[<-d.cell (lT C),nX,mL]at C;rw[<-d.cell (lT D),nX,mL]at D;have m:Ae (a[k]?=K x/\ts[k]?=K t):=⟨B,l⟩
     clear O P B l;go_wp2_with fail;refine(WT x t _).mono ?_;rintro e u ⟨⟨V,rfl,p⟩,N⟩;have F:Ae (Ah w w u):=Ar d lR N;clear N d C D;cases V
     . have r:Ae (¬CX a ts=true):=WP m.1 m.2 (λe=>absurd (p.2 e) nU);clear p;go_wp2;go_ret;exact⟨.no r,F⟩
     have S:Ae (t=0\/x=t):=p.1 rfl
     clear p;have T:Ae (∀(j:Nat),j<k+1->∀v,a[j]?=K v->∀t,ts[j]?=K t->t=0\/v=t):= λj hj v A t' z=>by
      by_cases e:j=k
      . subst e;rw[m.1]at A;rw[m.2]at z;obtain rfl:=mD A;obtain rfl:=mD z;exact S
      exact G.o j oM v A t' z
     go_wp2;go_roundw;(case rel=>exact⟨k+1,oM,by go_num,T,F⟩);exact oI
   have ae:n=k:=oM;subst ae;have U:Ae (CX a ts=true):=(N5 (by rw[f.1,f.2])).2 (λi s t R l=>G.o i (by have:=(f7.1 R).1;rw[f.1]at this;exact this) s R t l);go_wp2;go_ret;exact⟨.iQ U,d⟩
 have r:Ae (¬CX a ts=true):= λe=>g (N6 e)
 have ai:¬(a:Int)=(ts:Int):=oM;go_enter func253,ntmps253;go_wp2;go_ret;exact⟨.no r,mP _ _⟩
def BU(m:MM)(a b c:List Int)(f:MF):MS:=⟨0,false,0,0,[A9 a m.ins,A9 b m.outs,A9 c m.keeps],[],[⟨0,0,0,A8 f.aB⟩]⟩
def Ks:MS:=⟨7,false,0,0,[],[],[]⟩
def Ga(p:MP)(m:MM)(s:MS):Prop:=(CT p m/\∃a b c f fs,p.az=[a,b,c]/\p.aC=f::fs/\s=BU m a b c f)\/(¬CT p m/\s=Ks)
theorem Ga.one{p:MP}{m:MM}{s s':MS}(h:Ga p m s)(k:Ga p m s'):s=s':=by
 rcases h with⟨c,t,u,v,f,fs,e,j,rfl⟩|⟨c,rfl⟩<;>rcases k with⟨d,n,q,r,g,l,a,b,rfl⟩|⟨d,rfl⟩
 . rw[e]at a;rw[j]at b;simp only[ov,oZ]at a b;obtain⟨rfl,rfl,rfl⟩:=a;obtain⟨rfl,_⟩:=b;rfl
 . exact absurd c d
 . exact absurd d c
 rfl
structure JH(w u:Y)(v:VP)(vm:VM):Prop where
 pb:Ay u w #[v.r,v.k,v.f,v.t] 40
 mb:Ay u ((w:Nat)+1) #[vm.i,vm.o,vm.k] 52
 rb:Ay u ((w:Nat)+1+1) #[Ag Af 0,false,Ag Af 0,Ag Af 0,Z M 0 0,Z M 0 0,Z M 0 0] 48
 cq:Ah w w u
theorem JH.av{w u b:Y}{v:VP}{c:VM}(h:JH w u v c)(a:Ah u u b):JH w b v c:=⟨h.pb.av a,h.mb.av a,h.rb.av a,Ar h.cq lR a⟩
theorem JH.of(w:Y)(v:VP)(a:VM):JH w (Ac (Ac (Ac w (Ak #[v.r,v.k,v.f,v.t] 40)) (Ak #[a.i,a.o,a.k] 52)) (Ak #[Ag Af 0,false,Ag Af 0,Ag Af 0,Z M 0 0,Z M 0 0,Z M 0 0] 48)) v a:=by
 have h:=Al w (Ak #[v.r,v.k,v.f,v.t] 40);have j:=Ay.new w #[v.r,v.k,v.f,v.t] 40;generalize n:Ac w (Ak #[v.r,v.k,v.f,v.t] 40)=b at h j⊢;have m:(b:Nat)= ↑w+1:=by rw[<-n];simp
 have d:=Al b (Ak #[a.i,a.o,a.k] 52);have g:=Ay.new b #[a.i,a.o,a.k] 52;generalize p:Ac b (Ak #[a.i,a.o,a.k] 52)=c at d g⊢;have q:(c:Nat)= ↑w+1+1:=by rw[<-p];simp[m]
 have e:=Al c (Ak #[Ag Af 0,false,Ag Af 0,Ag Af 0,Z M 0 0,Z M 0 0,Z M 0 0] 48);have l:=Ay.new c #[Ag Af 0,false,Ag Af 0,Ag Af 0,Z M 0 0,Z M 0 0,Z M 0 0] 48;rw[m]at g;rw[q]at l;exact⟨(j.av d).av e,g.av e,l,Ar (Ar h lR d) lR e⟩
theorem Ew{W:Y}(b:Ah W W u){a:Addr}{x:J}(h:W a=K x):u a=K x:=by rw[b.cell (lT h)];exact h
theorem JH.lt{v:VP}{a:VM}(h:JH w u v a):(w:Nat)+1+1<u.heap.size:=h.rb.lt
theorem JH.set{v:VP}{a:VM}(h:JH w u v a){x:Nat}(b: ↑w+1+1<x)(i:Nat)(z:J):JH w (Aa u ⟨x,i,M⟩ z) v a:=⟨h.pb.other oS _,h.mb.other oS _,h.rb.other oS _,h.cq.setCell oS _⟩
theorem Ms{base b:Nat}{k n:Nat}{v:J}{xs:List J}(h:Ab w base e k v n xs)(d:b<=base):Ab w b e k v n xs:=⟨h.1,h.2.imp id λ⟨g,cap,a,c,f,r⟩=>⟨g,cap,a,c,mC d f,r⟩⟩
theorem Jn{α:Type}(f:α->List J)(m:Nat)(b:∀y,(f y).length=m)(ys:List α)(k j:Nat)(y c:α)(u:J)(a:ys[k]?=K y)(e:j<m)(d:f c=(f y).set j u):(Ad f ys).set (k*m+j) u=Ad f (ys.set k c):=by
 induction ys generalizing k with
 |nil=>simp at a
 | cons x r g=>
   cases k with
   | zero=>simp only[lO,lX]at a;subst a;rw[mi,mv,mv,Nat.zero_mul,m9,List.set_append_left _ _ (by rw[b];exact e),d]
   | succ k=>rw[lS]at a;rw[mh,mv,mv,pE _ _ (by rw[b,pP];omega),b,<-g k a];(congr 2);rw[pP];omega
theorem Om{base:Nat}{k n m c:Nat}{a:Option Addr}{xs:List J}(h:Ab w base e k (Z a n c) n xs)(s:m<=n):Ab w base e k (Z a m c) m (xs.take (m*k)):=by
 have d:m*k<=n*k:=Nat.mul_le_mul_right k s;refine⟨by rw[nF,h.1,Nat.min_eq_left d],?_⟩;rcases h.2 with⟨b,j⟩|⟨g,cap,f,b,l,r,v,p,q,t⟩
 . subst j;have u:m=0:=oM;subst u;exact .inl ⟨b,rfl⟩
 simp only[lU,mj]at b;obtain⟨rfl,rfl⟩:=b;refine .inr ⟨g,c,f,rfl,l,r,oM,p,q,?_⟩;rw[<-t,List.take_take,Nat.min_eq_left d]
theorem LT{α:Type}(f:α->List J)(m:Nat)(a:∀y,(f y).length=m)(ys:List α)(k:Nat):(Ad f ys).take (k*m)=Ad f (ys.take k):=by
 induction ys generalizing k with
 |nil=>simp
 | cons x r b=>
   cases k with
   |zero=>simp
   |succ k=>rw[mv,List.take_succ_cons,mv,pP,Nat.one_mul,List.take_append,a,mm (by rw[a];omega),<-b k];congr 2;omega
theorem CM{base:Nat}{k n m c:Nat}{a:Option Addr}{xs:List J}(h:Ab w base e k (Z a n c) m xs):n=m:=by obtain⟨a',c',b⟩:=AF h;simp only[lU]at b;exact b.2.1
theorem Co.at{B:Nat}{L:List (J×List MC)}(h:Co w B L){x:J×List MC}(a:L[j]?=K x):Ab w B 193 2 x.1 x.2 (Ad MC.cells x.2):=h.own x (lP a)
theorem Ia{α:Type}(L:List α)(j:Nat)(x y:α)(a:L[j]?=K x):L=L.take j++x::L.drop (j+1)/\L.set j y=L.take j++y::L.drop (j+1):=by
 obtain⟨b,rfl⟩:=f7.1 a;refine⟨?_,?_⟩
 . rw[List.getElem_cons_drop,n9]
 rw[List.set_eq_take_append_cons_drop,mE b]
theorem Co.kS{B:Nat}{L:List (J×List MC)}(h:Co w B L){j g n c i:Nat}{a:List MC}{y:MC}(k:L[j]?=K (Z g n c,a))(f:a[i]?=K y)(x:MC):
 Co (Aa (Aa w ⟨g,i*2,M⟩ x.type) ⟨g,i*2+1,M⟩ (.int .u32 x.word)) B (L.set j (Z g n c,a.set i x))/\w.grownBy (Aa (Aa w ⟨g,i*2,M⟩ x.type) ⟨g,i*2+1,M⟩ (.int .u32 x.word)) (K g):=by
 have b:=h.at k;simp only[]at b;have r:n=a.length:=CM b;subst r;obtain⟨s,m⟩:=b.stored (i*2) x.type;obtain⟨s1,p⟩:=s.stored (i*2+1) (.int .u32 x.word);have d:=Jn MC.cells 2 MC.bW a i 0 y ⟨x.type,y.word⟩ x.type f oM rfl;rw[mL]at d;have q:(a.set i ⟨x.type,y.word⟩)[i]?=K ⟨x.type,y.word⟩:=by rw[nK (f7.1 f).1]
 have l:=Jn MC.cells 2 MC.bW (a.set i ⟨x.type,y.word⟩) i 1 ⟨x.type,y.word⟩ x (.int .u32 x.word) q oM rfl;rw[d,l,List.set_set]at s1;have e:=m.trans p;obtain⟨t,u⟩:=Ia L j _ (Z g a c,a.set i x) k;refine⟨?_,e⟩;rw[u];rw[t]at h;exact Co.put h (by rw[mF]) s1 e
theorem Co.lH{B:Nat}{L:List (J×List MC)}(h:Co w B L){j g n c i:Nat}{a:List MC}{y:MC}(e:L[j]?=K (Z g n c,a))(k:a[i]?=K y)(x:Int):
 Co (Aa w ⟨g,i*2+1,M⟩ (.int .u32 x)) B (L.set j (Z g n c,a.set i ⟨y.type,x⟩))/\w.grownBy (Aa w ⟨g,i*2+1,M⟩ (.int .u32 x)) (K g):=by
 have b:=h.at e;simp only[]at b;have l:n=a.length:=CM b;subst l;obtain⟨s1,d⟩:=b.stored (i*2+1) (.int .u32 x);have f:=Jn MC.cells 2 MC.bW a i 1 y ⟨y.type,x⟩ (.int .u32 x) k oM rfl;rw[f]at s1;obtain⟨m,p⟩:=Ia L j _ (Z g a c,a.set i ⟨y.type,x⟩) e;refine⟨?_,d⟩;rw[p];rw[m]at h;exact Co.put h (by rw[mF]) s1 d
theorem ZQ{α β:Type}(f:α×β->List J)(d:∀a b c,f (a,b)=f (a,c))(C:List (α×β))(j:Nat)(a:α)(b c:β)(e:C[j]?=K (a,b)):Ad f (C.set j (a,c))=Ad f C:=by
 obtain⟨g,h⟩:=Ia C j _ (a,c) e;rw[h];conv=>rhs;rw[g]
 simp only[mW,mv,d a b c]
theorem Gp(F:List (MG×J))(i:Nat)(x:MG×J):Bh (F.set i x)=(Bh F).set i (x.2,x.1.aB):=by unfold Bh;rw[List.map_set]
theorem BA{F:List (MG×J)}{x:MG×J}(h:F[i]?=K x):(Bh F)[i]?=K (x.2,x.1.aB):=by unfold Bh;rw[mN,h];rfl
theorem Rt{α:Type}(L:List α)(i:Nat)(x:α)(h:L[i]?=K x):L.set i x=L:=by obtain⟨a,rfl⟩:=f7.1 h;exact List.set_getElem_self a
theorem AB.setAt{B:Nat}{C:List (J×List MC)}{K:List MC}{F:List (MG×J)}(h:AB w B v C K F){g n c i:Nat}{x:MG×J}(j:v.f=Z g n c)(k:F[i]?=some x)(z:Int):
 AB (Aa w ⟨g,i*4+1,M⟩ z) B v C K (F.set i ({x.1 with at_:=z},x.2))/\w.grownBy (Aa w ⟨g,i*4+1,M⟩ z) (some g):=by
 have b:=h.dk;rw[j]at b;have p:n=F.length:=CM b;subst p;obtain⟨r,q,d⟩:=Dv b;obtain⟨s1,m⟩:=b.stored (i*4+1) z;have l:=Jn BE 4 Ca F i 1 x ({x.1 with at_:=z},x.2) z k oM rfl;rw[l]at s1;refine⟨⟨mR h.cells (a:=⟨g,i*4+1,M⟩) (λe=>Bi h.cells d dC g e rfl) _,?_,?_⟩,m⟩
 . rw[j,mF];exact s1
 rw[Gp];simp only[];rw[Rt _ _ _ (BA k)];exact h.fg.set d dC _ _
theorem AB.jP{d:Y}{B g:Nat}{C a:List (J×List MC)}{K K':List MC}{F b:List (MG×J)}(h:AB w B v C K F){j n c:Nat}{u:List MC}(r:(C++[(v.k,K)]++Bh F)[j]?=some (Z g n c,u))(f:B<= ↑w)(q:w.grownBy d (some g))(p:Co d B (a++[(v.k,K')]++Bh b))(l:Ad Jy a=Ad Jy C)(s:a.length= ↑C)(m:Ad BE b=Ad BE F)(t:b.length= ↑F):AB d B v a K' b:=by
 have e:Z9 B w d:=Z9.jY (h.fg.at r) q f;refine⟨?_,?_,p⟩
 . rw[s,l];exact e.own h.cells dC
 rw[t,m];exact e.own h.dk dC
theorem AB.jq{B:Nat}{C:List (J×List MC)}{K:List MC}{F:List (MG×J)}(h:AB w B v C K F)(l:B<= ↑w){j g n c i:Nat}{a:List MC}{y:MC}(b:C[j]?=some (Z g n c,a))(m:a[i]?=some y)(x:MC):
 AB (Aa (Aa w ⟨g,i*2,M⟩ x.type) ⟨g,i*2+1,M⟩ (.int .u32 x.word)) B v (C.set j (Z g n c,a.set i x)) K F/\w.grownBy (Aa (Aa w ⟨g,i*2,M⟩ x.type) ⟨g,i*2+1,M⟩ (.int .u32 x.word)) (some g):=by
 have f:=(f7.1 b).1;have e:(C++[(v.k,K)]++Bh F)[j]?=some (Z g n c,a):=by rw[nD,mq f];exact b
 obtain⟨f1,d⟩:=h.fg.kS e m x;refine⟨h.jP e l d ?_ (ZQ Jy (λ_ _ _=>rfl) C j _ _ _ b) (mF ..) rfl rfl,d⟩;rw[nD,List.set_append_left _ _ f,<-nD]at f1;exact f1
theorem TW(F:List (MG×J))(i:Nat)(x:MG×J)(a:List MC)(b:F[i]?=K x):Ad BE (F.set i ({x.1 with aB:=a},x.2))=Ad BE F:=by
 obtain⟨c,d⟩:=Ia F i _ ({x.1 with aB:=a},x.2) b;rw[d];conv=>rhs;rw[c]
 simp only[mW,mv];rfl
theorem WN{C:List (J×List MC)}{k:J×List MC}{R:List (J×List MC)}{x:J×List MC}(h:R[i]?=K x):(C++[k]++R)[↑C+1+i]?=K x:=by
 rw[mg sP];simp only[mB,nQ,nT];rw[show ↑C+1+i-(↑C+(0+1))=i from oM]
 exact h
theorem TG{C:List (J×List MC)}{k:J×List MC}{R:List (J×List MC)}{x:J×List MC}:(C++[k]++R).set (↑C+1+i) x=C++[k]++R.set i x:=by rw[pE _ _ sP];simp only[mB,nQ,nT];rw[show ↑C+1+i-(↑C+(0+1))=i from oM]
theorem AB.kx{B:Nat}{C:List (J×List MC)}{K:List MC}{F:List (MG×J)}(h:AB w B v C K F)(f:B<= ↑w){j g n c i:Nat}{a:MG}{y:MC}(e:F[j]?=some (a,Z g n c))(l:a.aB[i]?=some y)(x:MC):
 AB (Aa (Aa w ⟨g,i*2,M⟩ x.type) ⟨g,i*2+1,M⟩ (.int .u32 x.word)) B v C K (F.set j ({a with aB:=a.aB.set i x},Z g n c))/\w.grownBy (Aa (Aa w ⟨g,i*2,M⟩ x.type) ⟨g,i*2+1,M⟩ (.int .u32 x.word)) (some g):=by
 have b:=WN (C:=C) (k:=(v.k,K)) (BA e);simp only[]at b;obtain⟨f1,d⟩:=h.fg.kS b l x;refine⟨h.jP b f d ?_ rfl rfl (TW F j _ _ e) (mF ..),d⟩;rw[TG]at f1;rw[Gp];exact f1
theorem AB.jO{B:Nat}{C:List (J×List MC)}{K:List MC}{F:List (MG×J)}(h:AB w B v C K F)(f:B<= ↑w){j g n c i:Nat}{a:MG}{y:MC}(e:F[j]?=some (a,Z g n c))(l:a.aB[i]?=some y)(x:Int):
 AB (Aa w ⟨g,i*2+1,M⟩ (.int .u32 x)) B v C K (F.set j ({a with aB:=a.aB.set i ⟨y.type,x⟩},Z g n c))/\w.grownBy (Aa w ⟨g,i*2+1,M⟩ (.int .u32 x)) (some g):=by
 have b:=WN (C:=C) (k:=(v.k,K)) (BA e);simp only[]at b;obtain⟨f1,d⟩:=h.fg.lH b l x;refine⟨h.jP b f d ?_ rfl rfl (TW F j _ _ e) (mF ..),d⟩;rw[TG]at f1;rw[Gp];exact f1
theorem Co.lB{u a:Y}{B:Nat}{L:List (J×List MC)}(h:Co u B L)(b:Ah u u a):Co a B L:=⟨λr c=>AD (h.own r c) b lR,h.sep⟩
theorem AB.grow{u b:Y}{B:Nat}{C:List (J×List MC)}{K:List MC}{F:List (MG×J)}(h:AB u B v C K F)(a:Ah u u b):AB b B v C K F:=⟨AD h.cells a lR,AD h.dk a lR,h.fg.lB a⟩
theorem AB.stack{j:Y}{B:Nat}{C:List (J×List MC)}{K K':List MC}{F:List (MG×J)}(h:AB w B v C K F)(y:B<= ↑w){b:J}(m:w.grownBy j v.k.ownBlock)(z:Ab j B 193 2 b K' (Ad MC.cells K'))(f:b.ownBlock=v.k.ownBlock\/∀g,b.ownBlock=some g-> ↑w<=g):AB j B {v with k:=b} C K' F:=by
 have t:=h.fg.own (v.k,K) sP;simp only[]at t;have u:Z9 B w j:=Z9.jY t m y;have d:=h.fg.sep;have l:∀r∈C++Bh F,ID (v.k,K) r:=by
  intro r c;rw[nD,nI]at d;rcases mA.1 c with c|c
  . exact(d.2.2 r c _ sP).symm
  exact(my.1 d.2.1).1 r (by simpa using c)
 have q:∀r∈C++Bh F,ID (b,K') r:=by
  intro r c g n e;rcases f with f|f
  . exact l r c g (by simp only[]at n⊢;rw[<-f];exact n) e
  have A:=f g n;have D:=(h.fg.own r (by simp only[mA]at c⊢;rcases c with c|c<;>simp[c])).lt g e;omega
 refine⟨u.own h.cells dC,u.own h.dk dC,?_,?_⟩
 . intro r c;simp only[mA,lW,lZ,mS]at c;rcases c with(c|rfl)|c
   . exact C6 (h.fg.own r (by simp[c])) m (λg p e=>l r (by simp[c]) g e.symm p)
   . exact z
   exact C6 (h.fg.own r (by simp[c])) m (λg p e=>l r (by simp[c]) g e.symm p)
 rw[nD,nI]at d⊢;refine⟨d.1,?_,?_⟩
 . simp only[nW,nO,my];refine⟨λr c=>q r (by simp[c]),?_⟩;have:=d.2.1;simp only[nW,nO,my]at this;exact this.2
 intro a s r c;simp only[nW,nO,lW]at c;rcases c with rfl|c
 . exact(q a (by simp[s])).symm
 exact d.2.2 a s r (by simp[c])
theorem Pc(w:Y)(r:Option Nat):w.grownBy w r:=⟨rfl,rfl,rfl,Nat.le_refl _, λ_ _ _=>rfl⟩
theorem AB.jT{B:Nat}{C:List (J×List MC)}{K:List MC}{F:List (MG×J)}(h:AB w B v C K F)(j:B<= ↑w){a:Option Addr}{n c m:Nat}(g:v.k=Z a n c)(e:m<= ↑K):AB w B {v with k:=Z a m c} C (K.take m) F:=by
 have d:=h.fg.own (v.k,K) sP;simp only[]at d;rw[g]at d;have l:n=K.length:=CM d;subst l;have f:=Om d e;rw[LT MC.cells 2 MC.bW]at f;refine h.stack j (b:=Z a m c) (Pc w _) ?_ (.inl ?_)
 . rw[nF,Nat.min_eq_left e];exact f
 rw[g];cases a<;>rfl
theorem AB.jV{B:Nat}{C:List (J×List MC)}{K:List MC}{F:List (MG×J)}(h:AB w B v C K F){a:Option Addr}{n c m:Nat}(p:v.f=Z a n c)(d:m<= ↑F):AB w B {v with f:=Z a m c} C K (F.take m):=by have b:=h.dk;rw[p]at b;have j:n=F.length:=CM b;subst j;have e:=Om b d;rw[LT BE 4 Ca]at e;have g:(C++[(v.k,K)]++Bh (F.take m)).Sublist (C++[(v.k,K)]++Bh F):=List.Sublist.append (List.Sublist.refl _) (by unfold Bh;rw[List.map_take];exact List.take_sublist _ _);refine⟨h.cells,?_, λr l=>h.fg.own r (g.subset l),h.fg.sep.sublist g⟩;rw[nF,Nat.min_eq_left d];exact e
theorem AB.other{B:Nat}{C:List (J×List MC)}{K:List MC}{F:List (MG×J)}(h:AB w B v C K F){g:Nat}{c:Array J}{t:Aj}(b:Ay w g c t)(d:193≠t)(f:45≠t)(j:132≠t)(i:Nat)(x:J):AB (Aa w ⟨g,i,M⟩ x) B v C K F:=⟨mR h.cells (a:=⟨g,i,M⟩) (λe=>Bi h.cells b f g e rfl) _,mR h.dk (a:=⟨g,i,M⟩) (λe=>Bi h.dk b j g e rfl) _,h.fg.set b d _ _⟩
theorem AB.base{B b:Nat}{C:List (J×List MC)}{K:List MC}{F:List (MG×J)}(h:AB w B v C K F)(a:b<=B):AB w b v C K F:=⟨Bm h.cells a,Bm h.dk a, λr c=>Bm (h.fg.own r c) a,h.fg.sep⟩
theorem Au(b:Ah w w u){a:Addr}{x:J}(h:w a=K x):u a=K x:=by rw[b.cell (lT h)];exact h
def nv(l:List Nat):List J:=l.map λ(k:Nat)=>Ag Af (k:Int)
theorem Vc(l:List Nat):(nv l).length=l.length:=by simp[nv]
theorem Mk(l m:List Nat):nv (l++m)=nv l++nv m:=by simp[nv]
theorem Er(l:List Nat):nv l=Ad At (ints l):=by
 induction l with
 |nil=>rfl
 | cons x r a=>simp only[nv,ints,nh,mv]at a⊢;rw[a];rfl
theorem Q7{k x:Nat}(h:l[k]?=K x):(nv l)[k]?=K ↑x:=by simp[nv,h]
def Lb(w:Y)(s:J)(l:List Nat):Prop:=Rd w 1 s l (nv l)
def Kk(w:Y)(base:Nat)(s:J)(l:List Nat):Prop:=Ab w base 2 1 s l (nv l)
theorem Kk.rd{base:Nat}{s:J}(h:Kk w base s l):Lb w s l:=Rd.eP h
theorem Kk.av{w a:Y}{base:Nat}{s:J}(h:Kk w base s l)(b:Ah w w a):Kk a base s l:=AD h b lR
theorem Lb.av{w a:Y}{s:J}(h:Lb w s l)(b:Ah w w a):Lb a s l:=Rd.av h b lR
theorem Lb.at_{a:Option Addr}{n c:Nat}(h:Lb w (Z a n c) l){k x:Nat}(d:l[k]?=K x):∃g o,a=K ⟨g,o,M⟩/\n= ↑l/\w ⟨g,o+k,M⟩=K ↑x:=by
 rcases h.2 with⟨f,_⟩|⟨g,o,c',b,e⟩
 . have:=(f7.1 d).1;omega
 simp only[lU]at b;obtain⟨rfl,rfl,rfl⟩:=b;exact⟨g,o,rfl,rfl,e k _ (Q7 d)⟩
theorem Lb.all{a:Option Addr}{n c:Nat}(h:Lb w (Z a n c) l)(j:0<l.length):∃g o,a=K ⟨g,o,M⟩/\n= ↑l/\∀k x:Nat,l[k]?=K x->w ⟨g,o+k,M⟩=K ↑x:=by
 rcases h.2 with⟨f,_⟩|⟨g,o,c',b,d⟩
 . omega
 simp only[lU]at b;obtain⟨rfl,rfl,rfl⟩:=b;exact⟨g,o,rfl,rfl, λk x e=>d k _ (Q7 e)⟩
def bv(P:Nat->Bool)(n:Nat):List J:=(List.range n).map λi=>Value.bool (P i)
def tZ(w:Y)(base g n:Nat)(P:Nat->Bool):Prop:=Ab w base 4 1 (Z g n n) n (bv P n)
def RZ(w:Y)(g o n:Nat)(E:Nat->List Nat):Prop:=∀b,b<n->∃a c,w ⟨g,o+b*3+2,M⟩=K (Z a (E b).length c)/\Lb w (Z a (E b).length c) (E b)
theorem RZ.av{e:Y}{g o n:Nat}{E:Nat->List Nat}(h:RZ w g o n E)(d:Ah w w e):RZ e g o n E:= λb k=>by obtain⟨a,c,f,j⟩:=h b k;exact⟨a,c,Az d f,j.av d⟩
theorem KQ.jm{V:J}(l:Bd xs)(h:KQ w V (AR xs)):∃g o c,V=Z (K ⟨g,o,M⟩) (AR xs).length c/\RZ w g o (AR xs).length (nx (AR xs))/\∀b m,(AR xs)[b]?=K m->w ⟨g,o+b*3,M⟩=K (Ag Af m.cz):=by
 obtain⟨ys,u,y,z⟩:=h;have C:=GN l;rcases y.2 with⟨B,_⟩|⟨g,o,c,s,k⟩
 . omega
 have n:∀b m,(AR xs)[b]?=K m->∃v,ys[b]?=K (m,v):= λb m d=>by rw[<-u,mN]at d;obtain⟨⟨D,v⟩,A,p⟩:=nJ.1 d;simp only[]at p;subst p;exact⟨v,A⟩
 refine⟨g,o,c,s, λb j=> ?_, λb m d=> ?_⟩
 . obtain⟨v,f⟩:=n b _ (an j);have r:=z _ (lP f);have e:=TL l (an j);(have q:Lb w v (nx (AR xs) b):=by unfold Lb;rw[Er];unfold Yq at r;simp only[e]at r;rw[A4]at r;exact r);obtain⟨a,cc,t⟩:=Rd.aD q;subst t;exact⟨a,cc,Rd.elem Bj k b _ f 2 _ rfl,q⟩
 obtain⟨v,f⟩:=n b m d;have:=Rd.elem Bj k b _ f 0 _ rfl;rw[mL]at this;exact this
structure Ih(E:Nat->List Nat)(n:Nat)(pl:Nat->Nat)(D:Nat->Nat->Bool):Prop where
 P:EU E n pl
 D:∀d b,D d b=true↔Ea E d b
 B:∀b,b<n->∀t∈E b,pl t<=pl b->Ea E t b
 R:∀x,x<n->DA E (λ_=>True) 0 x
section
variable {E:Nat->List Nat} {n:Nat} {pl:Nat->Nat} {D:Nat->Nat->Bool} {a b h x y p:Nat}
theorem Ih.iT(g:Ih E n pl D)(k:AW E D n h x):Ea E h x:=by
 rcases k with rfl|⟨t,j,e⟩
 . exact Ea.kw _ _
 obtain⟨_,_,b⟩:=(Db _ _ _ _ _).1 j;induction e with
 |here _=>exact(g.D _ _).1 b
 | step f a m l=>obtain⟨_,c⟩:=(CS _ _ _ _).1 a;exact λd=>l (.step d c f.lE)
theorem Ih.iU(g:Ih E n pl D)(b:h<n)(e:AW E D n h x):x<n:=by
 rcases e with rfl|⟨t,d,c⟩
 . exact b
 cases c with
 |here _=>exact((Db _ _ _ _ _).1 d).1
 |step _ a _=>exact((CS _ _ _ _).1 a).1
theorem Ih.pred(g:AW E D n h x)(b:x≠h)(c:p<n)(a:x∈E p):AW E D n h p:=by
 rcases g with rfl|⟨t,f,d⟩
 . exact absurd rfl b
 by_cases e:p=h
 . exact .inl e
 exact .inr ⟨t,f,.step d ((CS _ _ _ _).2 ⟨c,a⟩) e⟩
theorem Ih.head(g:Ih E n pl D)(c:b<n)(f:x∈E b)(d:Ea E x b):b∈AP E D n x/\AW E D n x b:=by
 have a:b∈AP E D n x:=(Db _ _ _ _ _).2 ⟨c,f,(g.D _ _).2 d⟩;refine⟨a,?_⟩;by_cases e:b=x
 . exact .inl e
 exact .inr ⟨b,a,.here e⟩
theorem Ih.comp(g:Ih E n pl D)(h:x<n)(c:Ea E a x)(d:Ea E b x):Ea E a b\/Ea E b a:=by
 have k:=O9 g.P g.R h c;have l:=O9 g.P g.R h d;have j:∀a b,Ea E a x->Ea E b x->pl a<pl b->Ea E a b:= λa b c d f m=>by exact c (m.trans ((d.jH g.P h).1.mono λy p e=>by subst e;omega))
 by_cases e:a=b
 . subst e;exact .inl (Ea.kw _ _)
 rcases Nat.lt_or_ge (pl a) (pl b)with f|f
 . exact .inl (j a b c d f)
 have:pl b≠pl a:= λq=>e (g.P.inj b a l k q).symm
 exact .inr (j b a d c oM)
theorem Ih.nest(g:Ih E n pl D)(j:b<n)(u:AW E D n a x)(d:AW E D n b x)(k:Ea E a b)(l:a≠b):(∀y,AW E D n b y->AW E D n a y)/\¬AW E D n b a:=by
 have s:=g.iU j d;have H:=(k.jH g.P j).2.2 l;have A:=O9 g.P g.R j k;have q:∀y,AW E D n b y->y≠a:= λy f e=>by subst e;exact l (Ea.jF g.P j A k (g.iT f))
 have C:∀{x},DA E (λy=>pl b<=pl y) b x->AW E D n a x->x<n->AW E D n a b:=by
  intro x c;induction c with
  |here _=>exact λh _=>h
  | step c d v m=>intro h I;have f:=c.lt g.P.jx j;exact m (Ih.pred h (λe=>by subst e;omega) f d) f
 have p:AW E D n a b:=C ((g.iT d).jH g.P s).1 u s;refine⟨λy f=> ?_, λh=>q a h rfl⟩;rcases f with rfl|⟨t,r,c⟩
 . exact p
 obtain⟨F,G,L⟩:=(Db _ _ _ _ _).1 r;have B:AW E D n a t:=Ih.pred p (Ne.symm l) F G;induction c with
 |here _=>exact B
 | step c d v m=>obtain⟨w,z⟩:=(CS _ _ _ _).1 d;exact Ih.pred m (q _ (.inr ⟨t,r,c⟩)) w z
theorem Ih.kv(g:Ih E n pl D)(e:a<n)(j:b<n)(c:AW E D n a x)(d:AW E D n b x)(f:a≠b):((∀y,AW E D n b y->AW E D n a y)/\¬AW E D n b a)\/((∀y,AW E D n a y->AW E D n b y)/\¬AW E D n a b):=by
 rcases g.comp (g.iU e c) (g.iT c) (g.iT d)with h|h
 . exact .inl (g.nest j c d h f)
 exact .inr (g.nest e d c h (Ne.symm f))
end
def KO(a b:ML):Prop:=a.a7.length<b.a7.length\/a.a7.length=b.a7.length/\a.head<b.head
theorem KO.irr(a:ML):¬KO a a:= λh=>by rcases h with h|⟨_,h⟩<;>omega
theorem KO.asy{a b:ML}(h:KO a b)(c:KO b a):False:=by rcases h with h|⟨d,e⟩<;>rcases c with c|⟨f,g⟩<;>omega
theorem ZS{l d:List ML}(m:l.Pairwise KO)(n:d.Pairwise KO)(c:l.Perm d):l=d:=by
 induction l generalizing d with
 |nil=>exact(List.Perm.nil_eq c)
 | cons a r t=>
   cases d with
   |nil=>exact(List.Perm.nil_eq c.symm).symm
   | cons b u=>
     obtain⟨g,h⟩:=my.1 m;obtain⟨j,k⟩:=my.1 n;have s:a=b:=by
      have p:=c.subset nG;have q:=c.symm.subset nG;rcases lW.1 p with e|e
      . exact e
      rcases lW.1 q with f|f
      . exact f.symm
      exact(KO.asy (j a e) (g b f)).elim
     subst s;rw[t h k (List.Perm.cons_inv c)]
section
variable {α:Type} {f:α->ML} {ys zs:List α} {m q r n:Nat} {z1 z2:α}
end
theorem Qi{L:List Nat}{n b:Nat}{m:MB}(p:L.Pairwise (· < ·))(c:∀x∈L,x<n)(h:(build L n)[b]?=K m):∃a e:Nat,m.cz=(a:Int)/\m.last=(e:Int)/\a<=e/\e<n:=by
 unfold build at h;rw[oR]at h;cases h1:L[b]? with
 |none=>rw[h1]at h;simp at h
 | some a=>
   cases h2:(L.tail++[n])[b]? with
   |none=>rw[h1,h2]at h;simp at h
   | some q=>
     rw[h1,h2]at h;simp only[lX]at h;subst h;have k:=c a (lP h1);have d:a<q/\q<=n:=by
      by_cases l:b< ↑L.tail
      . rw[mq l]at h2;have d:=pQ (lP h2);refine⟨?_,oq (c q d)⟩;(have j:L[b+1]?=K q:=by rw[<-h2];cases L<;>simp);obtain⟨r,f⟩:=f7.1 h1;obtain⟨s,g⟩:=f7.1 j;rw[<-f,<-g];exact(oH.1 p) b (b+1) r s oM
      rw[mg oM]at h2;have:=lP h2;simp only[lW,lZ,mS]at this;subst this;exact⟨k,Nat.le_refl _⟩
     exact⟨a,q-1,rfl,oS,oM,oM⟩
theorem Ez{b:Nat}{m:MB}(h:(AR xs)[b]?=K m):∃a e:Nat,m.cz=(a:Int)/\m.last=(e:Int)/\a<=e/\e<xs.length:=by unfold AR at h;rw[mN]at h;obtain⟨l,c,rfl⟩:=nJ.1 h;rw[Cu]at c;obtain⟨a,e,f,g,j,k⟩:=Qi (DC _ _) (λx d=>((Df _ _ _).1 d).1) c;exact⟨a,e,f,g,j,k⟩
structure qn(xs:List MI)(r:DQ):Prop where
 len:xs.length<=1024
 nb:r.a7.length<=1024
 two:∀m∈r.a7,m.next.length<=2
 nl:r.cv.length<=1024
 eI:∀(i:Nat) (m:MB),r.a7[i]?=K m->∃a e:Nat,m.cz=(a:Int)/\m.last=(e:Int)/\a<=e/\e< ↑xs
 loop:∀l∈r.cv,(∃h:Nat,l.head=(h:Int)/\h< ↑r.a7)/\(∀z∈l.a7,∃b:Nat,z=(b:Int)/\b< ↑r.a7)/\l.a7.length<=1024/\l.back.length<=2048
theorem QL{α β:Type}(f:α->List β)(l:List α)(h:∀a∈l,(f a).length<=2):(Ad f l).length<=2*l.length:=by
 induction l with
 |nil=>simp
 | cons a l d=>have e:=h a sP;(have g:=d λb c=>h b (by simp[c]));rw[mv,mB,nQ];omega
theorem Uf{E:Nat->List Nat}{D:Nat->Nat->Bool}(h:∀b,(E b).length<=2)(n y:Nat):(AP E D n y).length<=2*n:=by have a:=QL (λp=>((E p).filter λx=>decide (x=y)&&D y p).map λ_=>p) (List.range n) (λp _=>by rw[mQ];exact mC (o5 _ _) (h p));rw[pO]at a;exact a
theorem Ni{α β:Type}(f:α->Option β)(l:List α):(l.filterMap f).length<=l.length:=List.length_filterMap_le f l
theorem SU{E:Nat->List Nat}{D L:Nat->Nat->Bool}{n j:Nat}(f:j<=n){l:ML}(h:l∈Bv E D L n j):(∃h:Nat,l.head=(h:Int)/\h<n)/\(∀z∈l.a7,∃b:Nat,z=(b:Int)/\b<n)/\ ↑l.a7<=n/\∃g,l.back=ints (AP E D n g):=by
 unfold Bv at h;obtain⟨g,c,e⟩:=List.mem_filterMap.1 h;split at e
 . cases e
 cases e
 refine⟨⟨g,rfl,by have:=nN.1 c;omega⟩,?_,?_,g,rfl⟩
 . intro z d;obtain⟨b,a,rfl⟩:=mV.1 d;exact⟨b,rfl,nN.1 (oP.1 a).1⟩
 simp only[];rw[A4];exact mC (o5 _ _) sP
theorem Ba.iy{r:DQ}(h:Ba xs r)(a:r.aU=0):qn xs r:=by
 cases h with
 |none _=>cases a
 |off _ _ _=>cases a
 |lost _ _ _ _ _ _ _ _=>cases a
 |two _ _ _ _ _ _ _ _=>cases a
 | good g x1 o1 v1 s1 d1 b1 i1 l1=>
   refine⟨g.2.1,Gv g,Ib xs,?_, λi m h=>Ez h, λl f=> ?_⟩
   . simp only[];unfold Bv;exact mC (Ni _ _) (by rw[pO];exact Gv g)
   obtain⟨b,c,d,y,e⟩:=SU lR f;refine⟨b,c,mC d (Gv g),?_⟩;rw[e,A4];exact mC (Uf (Mm _ (Ib xs)) _ _) (by have:=Gv g;omega)
def Cr(ts:List MT)(a h:Int):Option MT:=ts.find? λc=>decide (c.func=a)&&decide (c.head=h)
theorem Qk{a h:Int}(q:∀(j:Nat) (c:MT),ts[j]?=K c->¬(c.func=a/\c.head=h)):Cr ts a h=M:=by unfold Cr;rw[List.find?_eq_none];intro c b;obtain⟨j,d⟩:=nB b;have:=q j c d;simpa using this
theorem Ql{a h:Int}{c:MT}(f:ts[i]?=K c)(d:c.func=a/\c.head=h)(q:∀(j:Nat) (c:MT),j<i->ts[j]?=K c->¬(c.func=a/\c.head=h)):Cr ts a h=K c:=by
 unfold Cr;rw[List.find?_eq_some_iff_getElem];obtain⟨k,e⟩:=f7.1 f;refine⟨by simp[d],i,k,e, λj g=> ?_⟩;have:=q j _ g (an oM);by_cases b:ts[j].func=a
 . simp only[b,mj]at this;simp[this]
 simp[b]
def DV(b:List MB)(l:List Int)(a:Int):Prop:=∃z∈l,∃m,b[z.toNat]?=K m/\m.cz<=a/\a<=m.last
def OT(xs:List MI)(k a:Int):Prop:=∃x,xs[a.toNat]?=K x/\(x.op=3\/x.op=27)/\x.a=k
def Jl(xs:List MI)(m:MB):Int:=match xs[m.last.toNat]? with|some x=>if x.op=25 then m.last-1 else m.last|none=>m.last
def BO(b:List MC)(xs:List MI)(m:MB)(c:MT):Prop:=m.cz<=Jl xs m-1/\∃x y v,xs[(Jl xs m-1).toNat]?=K x/\xs[(Jl xs m).toNat]?=K y/\x.op=1/\y.op=3/\y.a=c.dT/\b[x.a.toNat]?=K v/\v.type=3/\v.word=c.init
def Kj(d:List MC)(xs:List MI)(a:List MB)(l:ML)(c:MT):Prop:=∃(b:Nat) (m:MB),a[b]?=K m/\l.head∈m.next/\¬((b:Int)∈l.a7)/\¬BO d xs m c
def A5 (p:MP)(e:Int)(xs:List MI)(b:List MB)(l:ML)(n:Int):Prop:=∃d,b[l.head.toNat]?=K d/\
 ((Cr p.bO e d.cz=M/\n=1)\/∃c g,Cr p.bO e d.cz=K c/\xs[d.cz.toNat]?=K g/\
   ((¬ (g.op=27/\g.a=c.dT)/\n=2)\/((g.op=27/\g.a=c.dT)/\
     ((DV b l.a7 g.c/\n=3)\/(¬DV b l.a7 g.c/\
       (((∃a,DV b l.a7 a/\a≠d.cz/\OT xs c.dT a)/\n=4)\/((¬∃a,DV b l.a7 a/\a≠d.cz/\OT xs c.dT a)/\
         (((l.head=0\/Kj p.b8 xs b l c)/\n=5)\/(¬(l.head=0\/Kj p.b8 xs b l c)/\n=0)))))))))
theorem A5.one{p:MP}{k:Int}{e:List MB}{l:ML}{n m:Int}(h:A5 p k xs e l n)(b:A5 p k xs e l m):n=m:=by
 obtain⟨u,r,h⟩:=h;obtain⟨v,f,b⟩:=b;obtain rfl:u=v:=by rw[r]at f;exact mD f
 rcases h with⟨q,rfl⟩|⟨c,g,q,s,h⟩<;>rcases b with⟨d,rfl⟩|⟨c',t,d,j,b⟩
 . rfl
 . rw[q]at d;cases d
 . rw[q]at d;cases d
 obtain rfl:c=c':=by rw[q]at d;exact mD d
 obtain rfl:g=t:=by rw[s]at j;exact mD j
 rcases h with⟨a,rfl⟩|⟨a,h⟩<;>rcases b with⟨a',rfl⟩|⟨a',b⟩
 . rfl
 . exact absurd a' a
 . exact absurd a a'
 rcases h with⟨a,rfl⟩|⟨a,h⟩<;>rcases b with⟨a',rfl⟩|⟨a',b⟩
 . rfl
 . exact absurd a a'
 . exact absurd a' a
 rcases h with⟨a,rfl⟩|⟨a,h⟩<;>rcases b with⟨a',rfl⟩|⟨a',b⟩
 . rfl
 . exact absurd a a'
 . exact absurd a' a
 rcases h with⟨a,rfl⟩|⟨a,rfl⟩<;>rcases b with⟨a',rfl⟩|⟨a',rfl⟩
 . rfl
 . exact absurd a a'
 . exact absurd a' a
 rfl
theorem CV(h:EL t=true):¬t=0:=by unfold EL at h;simp at h;omega
theorem Sc{xs:List Int}(h:xs.all EL=true){k:Nat}{x:Int}(a:xs[k]?=K x):EL x=true:=nV.1 h x (lP a)
theorem Jp{f:MF}(a:Cb f)(n:Int):Jd f n↔¬AJ f n=0:=by
 constructor
 . rintro⟨d,l⟩;obtain⟨k,rfl⟩:=mJ d;by_cases q:k< ↑f.aP
   . rw[Q1 (an q)];exact CV (Sc a.pt (an q))
   have b:k-↑f.aP<f.aB.length:=oM
   have e:=QZ (f:=f) (an b);have c:((f.aP:Int)+((k-↑f.aP:Nat):Int))=(k:Int):=oM
   rw[c]at e;rw[e];exact CV (Sc a.lt (an b))
 intro h;by_cases g:n<0
 . exact absurd (KH g) h
 by_cases j:(f.aP:Int)+ ↑f.aB<=n
 . exact absurd (Q0 j) h
 exact⟨oM,oM⟩
theorem FK{p:MP}{a b:Nat}{l:List Int}(d:p.az.length=3)(c:p.az[a]?=K l):CJ p a b=l.getD b 0:=Ee (by have:=(f7.1 c).1;omega) c
theorem LC{p:MP}(d:A7 p.az)(a b:Int):¬CJ p a b=0↔∃l,0<=a/\p.az[a.toNat]?=K l/\0<=b/\b<(l.length:Int):=by
 constructor
 . intro h;have r:¬(a<0\/2<a\/b<0):= λe=>h (LA e)
   obtain⟨i,rfl⟩:=mJ (show 0<=a from oM);obtain⟨j,rfl⟩:=mJ (show 0<=b from oM);(have g:i<p.az.length:=by have:=d.1;omega);rw[FK d.1 (an g)]at h;refine⟨p.az[i],oM,by rw[lV];exact an g,oM,?_⟩;by_cases f:j<p.az[i].length
   . omega
   exact absurd (by rw[mI,mc oM];rfl) h
 rintro⟨l,k,c,m,q⟩;obtain⟨i,rfl⟩:=mJ k;obtain⟨j,rfl⟩:=mJ m;rw[lV]at c;rw[FK d.1 c];have f:j<l.length:=oM;have e:l.getD j 0=l[j]:=by rw[mI,an f];rfl
 rw[e];have n:=d.2 i (f7.1 c).1 l c;exact CV (Sc n.2 (an f))
theorem Iq{p:MP}(h:A7 p.az)(op a b:Int)(n:op=4\/op=5\/op=6\/op=7):C8 p op a b↔¬CJ p a b=0/\((op=4\/op=6)\/¬a=0):=by
 rw[LC h];constructor
 . rintro⟨l,c,d,e,f,g⟩;refine⟨⟨l,c,d,e,f⟩,?_⟩;by_cases q:a=0
   . left;by_cases j:op=5\/op=7
     . exact absurd ⟨j,q⟩ g
     omega
   exact .inr q
 rintro⟨⟨l,c,d,e,f⟩,g⟩;exact⟨l,c,d,e,f, λ⟨k,m⟩=>oM⟩
theorem SW{p:MP}(m:A7 p.az){a b:Nat}{l:List Int}(f:p.az[a]?=K l)(r:b< ↑l)(c:Int):GA (l.drop b) c↔OM p a b c:=by
 have w:=m.2 a (f7.1 f).1 l f;have cell:∀j:Nat,CJ p (a:Int) ((b:Int)+(j:Int))=l.getD (b+j) 0:= λj=>by have:=FK (b:=b+j) m.1 f;rw[Int.natCast_add]at this;exact this
 have n:CJ p (a:Int) (b:Int)=l.getD b 0:=FK m.1 f;have g:∀j:Nat,(l.drop b)[j]?=l[b+j]?:= λj=>by rw[pM]
 constructor
 . intro h;have v:=h.jy;rw[m8]at v;have y:=h.low;have A:=w.1;refine⟨h.low,oM,h.jK,?_, λj d=> ?_⟩
   . rw[LC m];exact⟨l,oM,by rw[lV];exact f,oM,oM⟩
   have:=h.one j d;rw[g,g]at this;rw[cell,n,mI,mI,this];rfl
 intro h;have u:∀j:Nat,(j:Int)<=c->b+j<l.length:= λj d=>by
  have e:=h.one j d;have t:=h.there;rw[<-e,cell]at t;by_cases q:b+j< ↑l
  . exact q
  exact absurd (by rw[mI,mc oM];rfl) t
 obtain⟨k,rfl⟩:=mJ h.low;have z:=u k oM;refine⟨h.low,by rw[m8];omega,h.jK, λj d=> ?_⟩;have s:=u j d;have e:=h.one j d;rw[cell,n,mI,mI,an s,an r]at e;rw[g,g,mL,an s,an r];simpa using e
structure Lk(D:DataW Unit)(left:Lit->Bool)(zs:List Int):Prop where
 nodup:zs.Nodup
 mem:∀z,z∈zs↔Fa z/\Go.Maps.has D (.int Af z)=true/\left (.int Af z)=false
theorem Lk.start(D:DataW Unit):Lk D (Go.Maps.has D) []:=⟨List.nodup_nil, λz=>⟨λh=>(by cases h), λh=>by rw[h.2.1]at h;exact absurd h.2.2 sP⟩⟩
theorem DP(z x:Int):(Lit.int Af z).sameKey (.int Af x)=decide (z=x):=by
 by_cases h:z=x
 . subst h;simp[Lit.sameKey]
 rw[Go.Maps.sameKey_ne (λe=>h (by cases e;rfl))];simp[h]
theorem Lk.step{D:DataW Unit}{left:Lit->Bool}{g:List Int}{x:Int}{y:DataW Unit}(h:Lk D left g)(hw:Fa x)(m:left (.int Af x)=true)(l:∀p,D.atKey (.int Af x) p=y):Lk D (λz=>left z&& !z.sameKey (.int Af x)) (g++[x]):=by
 have n:x∉g:= λe=>by have:=((h.mem x).1 e).2.2;rw[m]at this;cases this
 refine⟨?_, λz=> ?_⟩
 . rw[pH];refine⟨h.nodup,sP,?_⟩;intro a k b j;simp only[lW,lZ,mS]at j;subst j;exact λe=>n (e▸k)
 rw[mA,h.mem];simp only[lW,lZ,mS,DP];constructor
 . rintro(⟨c,d,f⟩|rfl)
   . exact⟨c,d,by simp[f]⟩
   exact⟨hw,Go.Maps.has_true_of_atKey l,sP⟩
 rintro⟨c,d,f⟩;by_cases e:z=x
 . exact .inr e
 refine .inl ⟨c,d,?_⟩;simpa[e]using f
theorem De(a:List Int):Ad At a=a.map (Value.int Af):=by
 induction a with
 |nil=>rfl
 |cons z r b=>simp[At,b]
theorem Ou(d:List Int)(h:d.Nodup):(d.mergeSort λx y=>decide (x<=y)).Pairwise (· < ·):=by have e:(d.mergeSort λx y=>decide (x<=y)).Pairwise (λa b=>decide (a<=b)=true):=List.pairwise_mergeSort (λa b c e f=>by simp at*;omega) (λa b=>oT) d;have f:(d.mergeSort λx y=>decide (x<=y)).Nodup:=(pB d _).nodup_iff.2 h;refine(e.and f).imp ?_;rintro a b ⟨g,j⟩;simp at g;omega
theorem I7(b f:Nat)(D:DataW Unit)(w:Y)(aR:f<=1048576)(h:AQ w b f D):
 Ai Aq 60 #[.map (K b)] w λe E=>∃(g cap:Nat) (a:List Int),e=Am (Z g a cap)/\Ab E w 2 1 (Z g a cap) a (Ad At a)/\a.Pairwise (· < ·)/\(∀z,z∈a↔Fa z/\Go.Maps.has D (.int Af z)=true)/\Ah w w E:=by
 obtain⟨V,N,S,T,U⟩:=nE Ct;have p:w.ownsMap Aq 2 (unitElem (H:=Unit)) b f D:=h;have ae:=p.lt;have aX:=p.size_le;clear h;go_enter func60,ntmps60;go_wp2_with (first
  |(at_len;refine wpList_len_own _ rfl _ 164 rfl 2 89 underlying164 _ b f _ rfl p ?_)
  |(at_make;refine wpList_make_own _ rfl _ _ 27 rfl w 2 V (iZ 0) 1 underlying27 N S T _ _ _ (Go.Maps.size D) rfl rfl rfl (by rw[U];omega) oX lR ?_;intro F aI n)
  |(at_range;refine wpList_range_own _ rfl _ 164 rfl 2 89 EX underlying164 _ b f _ rfl (p.kept n sP) ?_;intro w0 aH I aW)
  |go_in)
 go_frame;go_loopw [3] (λv wr=>∃(left:Lit->Bool) (s:Nat) (a:List Int),wr.ranges Aq 2 (unitElem (H:=Unit)) b F f D left s/\ ↑a+s<=Go.Maps.size D/\Ab wr w 2 1 v a (a.map (Value.int Af))/\v≠sN/\Lk D left a/\Ah w w wr) (λ_ wr=>wr.rangeLeft b F)
 case atStart=>exact⟨_,_,[],aH,sP,aI.kept I (Or.inr (by simp[Value.ownBlock])),sP,Lk.start D,((mP _ _).grown n lR (λj d=>by cases d)).grown I n.size (λj d=>by cases d)⟩
 case round=>
  obtain⟨left,s,a,B,aS,C,aF,t,k⟩:=hrel;go_wp2_with (first
   |(at_next;refine wpList_next_ranges _ rfl _ rfl 2 EX (unitElem (H:=Unit)) (Value.int Af) (λ(_:Unit)=>Value.agg #[]) (λaY kl hk=>by obtain⟨x,hx,_⟩:=Go.Maps.keyOf_int_inv underlying2 hk;exact⟨x,hx⟩) (λv y R=>by obtain⟨rfl,_⟩:=unitElem_inv R;exact⟨(),rfl⟩) b F f _ _ _ rfl B ?_ ?_)
   |go_in)
  . intro aQ aq;rcases C.2 with⟨aA,_⟩|⟨g,cap,aO,rfl,G,A,h1,h2,h3,h4⟩
    . exact absurd aA aF
    have hH:Go.Sort.Holds (Value.int Af) wr g 0 a.toArray:=holds_of_blockI A (by simpa using h4);have ai:g<wr.heap.size:=(mH.1 A).1;have hc:=Rv g cap a wr hH ai oM;have l:Ae ((a.mergeSort λx y=>decide (x<=y)).Pairwise (· < ·)/\(∀z,z∈(a.mergeSort λx y=>decide (x<=y))↔Fa z/\Go.Maps.has D (.int Af z)=true)/\(a.mergeSort λx y=>decide (x<=y)).length= ↑a):=by refine⟨Ou a t.nodup, λz=> ?_,(pB a _).length_eq⟩;rw[(pB a _).mem_iff,t.mem];exact⟨λq=>⟨q.1,q.2.1⟩, λq=>⟨q.1,q.2,aq _⟩⟩
    go_wp2_with (go_at_call 64;refine hc.mono ?_;rintro e E ⟨rfl,nn,os,rfl⟩);go_ret;refine⟨g,cap,a.mergeSort λx y=>decide (x<=y),?_,?_,l.1,l.2.1,k.grown (grownBy_sortedI _) k.size (λj d=>by cases d;exact G)⟩
    . rw[l.2.2];rfl
    rw[l.2.2,De];exact ownsRow_sortedI l.2.2 G A h1 h2 h3
  intro x c kl y w2 W aj au R aa O ax m aJ aT;obtain⟨x',X,rfl,aM⟩:=Go.Maps.keyOf_int_inv underlying2 aj;obtain rfl:x=x':=by cases X;rfl
  have r:=C.kept m (Or.inr (Go.row_ne_iter C B).symm);clear aJ;go_wp2_with (first
   |(at_builtin;refine wpList_append_own _ rfl _ _ 27 rfl w 2 V (iZ 0) 1 8 underlying27 N S T U rfl dC _ _ _ rfl (r.alloc _) w2 1 1 [x] rfl rfl (Go.cell_one_new _ _ _) (λu Q=>by simp at Q;subst Q;rfl) oX oM (by have:=k.size;have:=m.size;simp;omega) ?_;intro v' w3 aG L aE;go_frame)
   |go_in)
  have P:=(O.alloc (Ak #[x] 2)).kept L (Go.row_ne_low r ae) (Go.row_ne_iter r O);go_roundw;case rel=>refine⟨_,W,a++[x],P,oT,by simpa using aG, λaK=>by have:=(aE.1 aK).2;omega,t.step aM au aa,?_⟩;exact((k.grown m k.size (λj d=>by cases d;exact n.size)).alloc (by have:=k.size;have:=m.size;omega) _).grown L (by have:=k.size;have:=m.size;simp;omega) (λj d=>(r.lt j d).1)
  case measure=>rw[P.left_eq,B.left_eq];exact ax
structure LV where
 h:Int
 xa:Option Addr
 xn:Nat
 xc:Nat
 ya:Option Addr
 yn:Nat
 yc:Nat
instance:Inhabited LV:=⟨⟨0,none,0,0,none,0,0⟩⟩
def LV.enc(x:LV):List Value:=[.int .i64 x.h,.slice x.xa x.xn x.xc,.slice x.ya x.yn x.yc]
def LV.cmp(x y:LV):Int:=if x.yn<y.yn then -1 else if y.yn<x.yn then 1 else if x.h<y.h then -1 else if y.h<x.h then 1 else 0
theorem LV.lt_iff(x y:LV):ltOf LV.cmp x y=decide (x.yn<y.yn\/x.yn=y.yn/\x.h<y.h):=by
 unfold ltOf LV.cmp;by_cases h1:x.yn<y.yn
 . simp[h1]
 by_cases h2:y.yn<x.yn
 . have:¬(x.yn<y.yn\/x.yn=y.yn/\x.h<y.h):=by omega
   simp[h1,h2];omega
 have e:x.yn=y.yn:=by omega
 by_cases h3:x.h<y.h
 . simp[e,h3]
 by_cases h4:y.h<x.h<;>simp[e,h3,h4]
theorem LV.swo:Go.Sort.SWO (ltOf LV.cmp) where
 irrefl x:=by rw[LV.lt_iff];simp
 trans x y z h1 h2:=by rw[LV.lt_iff]at*;simp at*;omega
 ntrans x y z h1 h2:=by rw[LV.lt_iff]at*;simp at*;omega
structure M6(E:Nat->List Nat)(n:Nat)(D:Nat->Nat->Bool)(Dn:Nat->Prop)(J:Nat->Nat):Prop where
 st:∀b,b<n->(J b=b/\∀h,Dn h->¬AW E D n h b)\/(Dn (J b)/\AW E D n (J b) b/\∀h,Dn h->AW E D n h b->∀y,AW E D n h y->AW E D n (J b) y)
 dl:∀h,Dn h->h<n
structure Ys(E:Nat->List Nat)(n:Nat)(D:Nat->Nat->Bool)(Dn:Nat->Prop)(J:Nat->Nat)(inn:Nat->Prop)(h:Nat):Prop where
 lt:∀b,inn b->b<n
 hd:inn h
 pr:∀b,inn b->b≠h->∀p,p<n->b∈E p->inn p
 dn:∀x,inn x->x≠h->AP E D n x≠[]->Dn x
 jh:J h=h
 jo:∀b,inn b->J b=h->b=h
 z:inn 0->h=0
section
variable {E:Nat->List Nat} {n:Nat} {pl:Nat->Nat} {D:Nat->Nat->Bool} {Dn:Nat->Prop} {J:Nat->Nat} {inn:Nat->Prop} {a b h k x y p:Nat}
theorem Ih.same(g:Ih E n pl D)(e:a<n)(f:b<n)(c:∀y,AW E D n a y->AW E D n b y)(d:∀y,AW E D n b y->AW E D n a y):a=b:=(Ea.jF g.P e f (g.iT (c a (.inl rfl))) (g.iT (d b (.inl rfl)))).symm
theorem M6.jE(g:Ih E n pl D)(s:M6 E n D Dn J)(c:b<n):Ea E (J b) b/\J b<n/\pl (J b)<=pl b:=by
 have a:Ea E (J b) b:=by
  rcases s.st b c with⟨h,_⟩|⟨_,h,_⟩
  . rw[h];exact Ea.kw _ _
  exact g.iT h
 exact⟨a,O9 g.P g.R c a,(a.jH g.P c).2.1⟩
theorem Ys.jx(g:Ih E n pl D)(s:M6 E n D Dn J)(r:Ys E n D Dn J inn h)(L:inn b)(j:x∈E b)(w:inn x)(H:J x≠J b)(I:J x≠h):J x=x/\pl b<pl x:=by
 have c:=r.lt b L;have y:=r.lt x w;have O:x≠h:= λe=>I (by rw[e,r.jh])
 have A:∀k,Dn k->AW E D n k b->AW E D n k x->J x=k->False:= λk d t v a=>by
  rcases s.st b c with⟨_,q⟩|⟨f,m,C⟩
  . exact q k d t
  rcases s.st x y with⟨_,u⟩|⟨Q,R,F⟩
  . exact u k d v
  rw[a]at F;have p:=C k d t;have G:=F _ f (p x v);exact H (by rw[a];exact g.same (s.dl k d) (s.dl _ f) p G)
 have a:J x=x:=by
  rcases s.st x y with⟨q,_⟩|⟨f,m,C⟩
  . exact q
  by_cases e:x=J x
  . exact e.symm
  exact(A _ f (Ih.pred m e c j) m rfl).elim
 refine⟨a,?_⟩;rcases Nat.lt_or_ge (pl b) (pl x)with l|l
 . exact l
 obtain⟨z,P⟩:=g.head c j (g.B b c x j l);have N:=r.dn x w O (λe=>by rw[e]at z;cases z);exact(A x N P (.inl rfl) a).elim
theorem Ys.lK(g:Ih E n pl D)(s:M6 E n D Dn J)(r:Ys E n D Dn J inn h)(f:inn a)(j:inn b)(k:x∈E b)(l:inn x)(c:J x≠J b)(d:J x≠h)(e:J x=J a):pl b<pl a:=by obtain⟨m,p⟩:=r.jx g s j k l c d;have:=(s.jE g (r.lt a f)).2.2;rw[<-e,m]at this;omega
structure Yp(E:Nat->List Nat)(inn:Nat->Prop)(J:Nat->Nat)(h:Nat)(C t:Nat->Int):Prop where
 hd:t h=C h
 ed:∀b x,inn b->x∈E b->inn x->J x≠J b->J x≠h->t (J b)+C (J x)<=t (J x)
structure tJ(E:Nat->List Nat)(inn:Nat->Prop)(J:Nat->Nat)(h:Nat)(C s:Nat->Int):Prop where
 clo:Yp E inn J h C s
 le:∀t,Yp E inn J h C t->∀b,inn b->s (J b)<=t (J b)
theorem tJ.one{s s':Nat->Int}(a:tJ E inn J h C s)(c:tJ E inn J h C s')(d:inn b):s (J b)=s' (J b):=Int.le_antisymm (a.le _ c.clo b d) (c.le _ a.clo b d)
theorem Yp.jZ{t:Nat->Int}(g:Ih E n pl D)(r:Ys E n D Dn J inn h)(f:∀c,0<=C c)(j:Yp E inn J h C t)(v:inn b):0<=t (J b):=by
 suffices ∀m b,pl b<=m->inn b->0<=t (J b)from this _ b lR v
 intro m;induction m with
 | zero=>
   intro b u a;by_cases e:b=h
   . rw[e,r.jh,j.hd];exact f _
   (have d:b≠0:= λq=>by subst q;exact e (r.z a).symm);have:=g.P.cz b (r.lt b a) d;omega
 | succ m y=>
   intro b u a;by_cases e:b=h
   . rw[e,r.jh,j.hd];exact f _
   (have d:b≠0:= λq=>by subst q;exact e (r.z a).symm);obtain⟨q,A,s,F⟩:=g.P.par b (r.lt b a) d;have p:=r.pr b a e q A s;have w:=y q oM p;by_cases k:J b=J q
   . rw[k];exact w
   by_cases l:J b=h
   . exact absurd (r.jo b a l) e
   have B:=j.ed q b p s a k l;have:=f (J b);omega
structure V8(E:Nat->List Nat)(n:Nat)(D L:Nat->Nat->Bool)(Dn:Nat->Prop)(h:Nat):Prop where
 lt:h<n
 il:∀h y,L h y=true↔AW E D n h y
 s1:∀x,AP E D n x≠[]->((List.range n).filter (L x)).length<((List.range n).filter (L h)).length->Dn x
 s2:∀k,Dn k->k≠h/\((List.range n).filter (L k)).length<=((List.range n).filter (L h)).length
theorem V8.less(g:Ih E n pl D)(c:∀h y,L h y=true↔AW E D n h y)(f:a<n)(d:∀y,AW E D n b y->AW E D n a y)(e:¬AW E D n b a):((List.range n).filter (L b)).length<((List.range n).filter (L a)).length:=QJ _ _ n a (λk _ j=>(c _ _).2 (d k ((c _ _).1 j))) f (by rw[<-Bool.not_eq_true,c];exact e) ((c _ _).2 (.inl rfl))
theorem V8.within(g:Ih E n pl D)(s:M6 E n D Dn J)(q:V8 E n D L Dn h)(a:Dn k)(c:AW E D n h b)(d:AW E D n k b):(∀y,AW E D n k y->AW E D n h y)/\¬AW E D n k h:=by
 rcases g.kv q.lt (s.dl k a) c d (Ne.symm (q.s2 k a).1)with i|⟨e,f⟩
 . exact i
 have:=V8.less g q.il (s.dl k a) e f;have:=(q.s2 k a).2;omega
theorem V8.rgn(g:Ih E n pl D)(s:M6 E n D Dn J)(q:V8 E n D L Dn h):Ys E n D Dn J (AW E D n h) h where
 lt b hb:=g.iU q.lt hb
 hd:=.inl rfl
 pr b hb hn p hp he:=Ih.pred hb hn hp he
 dn x hx hn hh:=by
  rcases g.kv q.lt (g.iU q.lt hx) hx (.inl rfl) (Ne.symm hn)with⟨a,c⟩|⟨a,c⟩
  . exact q.s1 x hh (V8.less g q.il q.lt a c)
  exact absurd hx c
 jh:=by
  rcases s.st h q.lt with⟨i,_⟩|⟨a,c,_⟩
  . exact i
  exact absurd c (q.within g s a (.inl rfl) c).2
 jo b hb e:=by
  rcases s.st b (g.iU q.lt hb)with⟨i,_⟩|⟨a,_,_⟩
  . rw[<-i,e]
  rw[e]at a;exact absurd rfl (q.s2 h a).1
 z h0:=(g.iT h0).jw
theorem V8.step(g:Ih E n pl D)(s:M6 E n D Dn J)(q:V8 E n D L Dn h):M6 E n D (λk=>Dn k\/k=h) (λb=>if L h b then h else J b) where
 st b hb:=by
  by_cases e:L h b=true
  . simp only[e,if_true];refine .inr ⟨sP,(q.il _ _).1 e, λk a c=> ?_⟩;rcases a with a|rfl
    . exact(q.within g s a ((q.il _ _).1 e) c).1
    exact λ_ h=>h
  simp only[lY e];have j:¬AW E D n h b:= λi=>e ((q.il _ _).2 i)
  rcases s.st b hb with⟨d,f⟩|⟨d,f,l⟩
  . exact .inl ⟨d, λk a=>a.elim (f k) (λe=>e▸j)⟩
  exact .inr ⟨.inl d,f, λk a c=>a.elim (λa=>l k a c) (λe=>absurd (e▸c) j)⟩
 dl k a:=a.elim (s.dl k) (λe=>e▸q.lt)
theorem M6.whole(g:Ih E n pl D)(s:M6 E n D Dn J)(d:∀x,AP E D n x≠[]->Dn x)(c:¬Dn 0):Ys E n D Dn J (λb=>b<n) 0 where
 lt b hb:=hb
 hd:=g.P.pos
 pr b hb hn p hp he:=hp
 dn x hx hn hh:=d x hh
 jh:=by
  rcases s.st 0 g.P.pos with⟨i,_⟩|⟨a,f,_⟩
  . exact i
  have:=(g.iT f).jw;rw[this]at a;exact absurd a c
 jo b hb e:=by
  rcases s.st b hb with⟨i,_⟩|⟨a,_,_⟩
  . rw[<-i,e]
  rw[e]at a;exact absurd a c
 z _:=rfl
end
theorem AY.parts{p:MP}(h:AY p 0):A7 p.az/\Bz p.b8/\Bu p.aC/\DU p/\Cw p:=by
 unfold AY at h;rcases h with h|h|h|h|h|h
 . exact absurd h.1 dC
 . exact absurd h.1 dC
 . exact absurd h.1 dC
 . exact absurd h.1 dC
 . exact absurd h.1 dC
 exact h.2
theorem AY.iR{p:MP}(h:AY p 0){f:MF}{x:MI}(a:p.aC[i]?=K f)(b:f.aU[j]?=K x):AV p f x:=h.parts.2.2.2.1 i (f7.1 a).1 f a j (f7.1 b).1 x b
theorem Gl:AH 1=1/\AH 2=2/\AH 3=2/\AH 4=3/\AH 5=3/\AH 6=4/\AH 7=4/\AH 27=10/\AH 28=11:=by decide+kernel
theorem AV.const{p:MP}{f:MF}{x:MI}(h:AV p f x)(e:x.op=1):∃(q:Nat) (z:MC),x.a=q/\p.b8[q]?=K z:=by
 obtain⟨_,_,h⟩:=h;rw[e,Gl.1]at h;unfold BQ BW at h;have b:0<=x.a/\x.a<p.b8.length:=by rcases h with h|h|h|h|h|h|h|h|h|h<;>first|(exfalso;omega)|exact⟨h.2.1,h.2.2.1⟩
 obtain⟨q,c⟩:=mJ b.1;rw[c]at b;exact⟨q,_,c,an oM⟩
theorem ST{f:MF}{a:Int}(h:¬AJ f a=0):∃q:Nat,a=q/\(f.aP++f.aB)[q]?=K (AJ f a):=by
 by_cases b:a<0
 . exact absurd (KH b) h
 obtain⟨q,c⟩:=mJ (by omega:0<=a);refine⟨q,c,?_⟩;subst c;unfold AJ at h⊢;rw[lY b]at h⊢;rw[mI]at h⊢;simp only[lV]at h⊢;cases e:(f.aP++f.aB)[q]? with
 |none=>rw[e]at h;exact absurd rfl h
 |some z=>rfl
theorem AV.local{p:MP}{f:MF}{x:MI}(h:AV p f x)(e:x.op=2\/x.op=3\/x.op=27):∃q:Nat,x.a=q/\(f.aP++f.aB)[q]?=K (AJ f x.a):=by
 apply ST;obtain⟨_,_,h⟩:=h;have b:AH x.op=2\/AH x.op=10:=by
  rcases e with e|e|e<;>rw[e]
  . exact .inl Gl.2.1
  . exact .inl Gl.2.2.1
  exact .inr Gl.2.2.2.2.2.2.2.1
 unfold BQ BW at h;rcases h with h|h|h|h|h|h|h|h|h|h<;>first|(exfalso;omega)|exact h.2.1
theorem Un{p:MP}{a b:Int}(k:p.az.length=3)(h:¬CJ p a b=0):∃(q z:Nat) (r:List Int),a=q/\b=z/\p.az[q]?=K r/\r[z]?=K (CJ p a b):=by
 by_cases f:a<0\/2<a\/b<0
 . exact absurd (LA f) h
 obtain⟨q,g⟩:=mJ (by omega:0<=a);obtain⟨z,j⟩:=mJ (by omega:0<=b);subst g j;have d:p.az[q]?=K (p.az[q]'oM):=an oM
 refine⟨q,z,_,rfl,rfl,d,?_⟩;have e:=Ee (p:=p) (r:=q) (c:=z) oM d;rw[e]at h⊢;rw[mI]at h⊢;cases e2:(p.az[q]'oM)[z]? with
 |none=>rw[e2]at h;exact absurd rfl h
 |some t=>rfl
theorem Uo{p:MP}{x:MI}{q z:Nat}{r:List Int}(c:x.a=q)(d:x.b=z)(e:p.az[q]?=K r)(f:r[z]?=K t):CU p x=t:=by unfold CU;rw[c,d];simp only[lV,e,f];rfl
theorem AV.cell{p:MP}{f:MF}{x:MI}(k:p.az.length=3)(h:AV p f x)(e:x.op=4\/x.op=5\/x.op=6\/x.op=7):∃(q z:Nat) (r:List Int),x.a=q/\x.b=z/\p.az[q]?=K r/\r[z]?=K (CU p x):=by
 obtain⟨_,_,h⟩:=h;have m:AH x.op=3\/AH x.op=4:=by
  rcases e with e|e|e|e<;>rw[e]
  . exact .inl Gl.2.2.2.1
  . exact .inl Gl.2.2.2.2.1
  . exact .inr Gl.2.2.2.2.2.1
  exact .inr Gl.2.2.2.2.2.2.1
 unfold BQ BW at h;have l:¬CJ p x.a x.b=0:=by rcases h with h|h|h|h|h|h|h|h|h|h<;>first|(exfalso;omega)|exact h.2.1|exact h.2.1.there
 obtain⟨q,z,r,c,d,g,j⟩:=Un k l;refine⟨q,z,r,c,d,g,?_⟩;rw[Uo c d g j];exact j
theorem AV.jK{p:MP}{f:MF}{x:MI}(h:AV p f x)(e:x.op=6\/x.op=7):OM p x.a x.b x.c:=by
 obtain⟨_,_,h⟩:=h;have d:AH x.op=4:=by
  rcases e with e|e<;>rw[e]
  . exact Gl.2.2.2.2.2.1
  exact Gl.2.2.2.2.2.2.1
 unfold BQ BW at h;rcases h with h|h|h|h|h|h|h|h|h|h<;>first|(exfalso;omega)|exact h.2.1
theorem AV.callee{p:MP}{f:MF}{x:MI}(h:AV p f x)(e:x.op=28):∃(q:Nat) (fq:MF),x.a=q/\p.aC[q]?=K fq:=by
 obtain⟨_,_,h⟩:=h;rw[e,Gl.2.2.2.2.2.2.2.2]at h;unfold BQ BW at h;have b:0<=x.a/\x.a<p.aC.length:=by rcases h with h|h|h|h|h|h|h|h|h|h<;>first|(exfalso;omega)|exact⟨h.2.1,h.2.2.1⟩
 obtain⟨q,c⟩:=mJ b.1;rw[c]at b;exact⟨q,_,c,an oM⟩
theorem AV.target{p:MP}{f:MF}{x:MI}(h:AV p f x)(e:x.op=25\/x.op=26\/x.op=27):0<=x.c/\x.c<f.aU.length:=by
 obtain⟨_,_,h⟩:=h;have a:AH 25=9/\AH 26=9/\AH 27=10:=by decide+kernel
 have b:AH x.op=9\/AH x.op=10:=by
  rcases e with e|e|e<;>rw[e]
  . exact .inl a.1
  . exact .inl a.2.1
  exact .inr a.2.2
 unfold BQ BW at h;rcases h with h|h|h|h|h|h|h|h|h|h<;>first|(exfalso;omega)|exact h.2.2.2
end Go.Proofs.YtkgohaigebcgoaaGreatDoor
