import Derived.Test.YtadcneiiokbofaaGreatBo17
import Derived.Lib.AppendZerosOnto
import Derived.Lib.AppendZeros
import Derived.Laws.Append
import Derived.Deep.DeepCutAuto
import Derived.Test.YtadcneiiokbofaaGreatBo12
import Derived.Test.YtadcneiiokbofaaGreatBo13
namespace Go.Proofs.YtadcneiiokbofaaGreat
open Go.ChangeShapes Go.WideShapes Go.ChangeAt Go.RowKit Go.Proofs.Tryz
set_option linter.unusedVariables false
open Option renaming some → K,none → M
open Go.Value renaming slice → Z,int → Ag,agg → Am,tuple → Ao
open Go renaming Value → J,World → Y,Calls → Ai,TypeId → Aj
open Go.RowKit renaming Hid → Ae,Below → Ah
open Go.IntKind renaming i64 → Af
open Go.Obj renaming cells → Ak
open Go.Ending renaming returned → Al
open Go.Proofs.Tryz renaming prog → Ap
open Go.World renaming ownsRow → Ab,alloc → Ac,setCell → Aa
open List renaming flatMap → Ad
set_option maxHeartbeats 8000000
set_option maxRecDepth 100000
variable {z:Int}{D W:DataW Unit}{p:MP}{w u g U:Y}{e:Aj}{s v V V':J}{fs:List MF}{B base i S:Nat}{left:Lit->Bool}{xs:List MI}{a:List Int}{m:MB}{r:CS}{R:J->Option (DataW Unit×List MemPlace)}{l:ML}
def Top(E:Nat->List Nat)(n:Nat)(P:Nat->Bool)(I:List Nat)(f:Nat)(pl:Nat->Nat):Prop:=∀a b x,EU P n a->EU P n b->x∈E b->EU P n x->jf I x≠jf I b->jf I x≠f->jf I x=jf I a->pl b<pl a
structure WQ(E:Nat->List Nat)(n:Nat)(P:Nat->Bool)(I:List Nat)(C:List Int)(f:Nat)(pl:Nat->Nat)(L:List Int)(k q:Nat):Prop where
 len: ↑L=n
 jy:∀y∈L,EP y
 hd:cf L f=cf C f
 le:∀t,Wr E (EU P n) (jf I) f (cf C) t->(∀b,EU P n b->0<=t (jf I b))->∀b,EU P n b->cf L (jf I b)<=t (jf I b)
 cl:Top E n P I f pl->∀b x,(pl b<k\/pl b=k/\x∈(E b).take q)->EU P n b->x∈E b->EU P n x->jf I x≠jf I b->jf I x≠f->cf L (jf I b)+cf C (jf I x)<=cf L (jf I x)
section
variable {E:Nat->List Nat} {n:Nat} {P:Nat->Bool} {I:List Nat} {C:List Int} {f:Nat} {pl:Nat->Nat} {L:List Int} {k q b x:Nat}
theorem GR(h:∀y∈L,EP y)(c:Nat):EP (cf L c):=by
 unfold cf;rw[lN];cases e:L[c]? with
 |none=>exact⟨sP,sP⟩
 |some y=>exact h y (lA e)
theorem UP(h:x< ↑L):L[x]?=K (cf L x):=by rw[an h];exact congrArg K (Ed (an h)).symm
theorem L8{y:Int}(h:y∈L.set x z):y∈L\/y=z:=oU h
theorem WQ.start(i:f<n)(g:EP (cf C f)):WQ E n P I C f pl ((List.replicate n (0:Int)).set f (cf C f)) 0 0:=by
 have a:(List.replicate n (0:Int))[f]?=K 0:=by rw[List.getElem?_replicate,lZ i]
 have p:∀c,cf (List.replicate n (0:Int)) c=0:= λc=>by
  unfold cf;rw[lN,List.getElem?_replicate];by_cases e:c<n
  . rw[lZ e];rfl
  rw[lS e];rfl
 refine⟨sP, λy m=> ?_,by rw[Dx a,lZ rfl], λt l j b d=> ?_, λ_ b x k=> ?_⟩
 . rcases L8 m with h|rfl
   . obtain rfl:=(List.mem_replicate.1 h).2;exact⟨sP,sP⟩
   exact g
 . rw[Dx a];by_cases e:jf I b=f
   . rw[lZ e,e,l.hd];exact Int.le_refl _
   rw[lS e,p];exact j b d
 rcases k with h|⟨_,h⟩
 . omega
 simp at h
theorem WQ.kO(h:WQ E n P I C f pl L k 0)(d:∀b,b<n->pl b=k->P b=false):WQ E n P I C f pl L (k+1) 0:=
 ⟨h.len,h.jy,h.hd,h.le, λT b x a c=>by
  rcases a with a|⟨_,a⟩
  . by_cases e:pl b=k
    . have:=d b c.1 e;rw[c.2]at this;cases this
    exact h.cl T b x (.inl oM) c
  simp at a⟩
theorem WQ.kQ(h:WQ E n P I C f pl L k q)(g:∀b,b<n->pl b=k->(E b).length<=q):WQ E n P I C f pl L (k+1) 0:=
 ⟨h.len,h.jy,h.hd,h.le, λT b x a c d=>by
  rcases a with a|⟨_,a⟩
  . by_cases e:pl b=k
    . exact h.cl T b x (.inr ⟨e,by rw[mC (g b c.1 e)];exact d⟩) c d
    exact h.cl T b x (.inl oM) c d
  simp at a⟩
theorem WQ.jB(h:WQ E n P I C f pl L k q)(m:∀c,c<n->pl c=k->c=b)(r:(E b)[q]?=K x)(p:¬(EU P n x/\jf I x≠jf I b/\jf I x≠f)):WQ E n P I C f pl L k (q+1):=
 ⟨h.len,h.jy,h.hd,h.le, λT c y a i l j d g=>by
  rcases a with a|⟨e,a⟩
  . exact h.cl T c y (.inl a) i l j d g
  have:=m c i.1 e;subst this;rw[List.take_add_one,r,lT]at a;rcases a with a|a
  . exact h.cl T c y (.inr ⟨e,a⟩) i l j d g
  simp at a;subst a;exact absurd ⟨j,d,g⟩ p⟩
theorem WQ.over(h:WQ E n P I C f pl L k q)(D:∀a,a<n->pl a=k->a=b)(j:EU P n b)(S:pl b=k)(v:(E b)[q]?=K x)(m:EU P n x)(u:jf I x≠jf I b)(i:jf I x≠f)(N:jf I x<n)(R:0<=cf C (jf I x))(Q:max (cf L (jf I x)) (cf L (jf I b)+cf C (jf I x))<=4294967295):WQ E n P I C f pl (L.set (jf I x) (max (cf L (jf I x)) (cf L (jf I b)+cf C (jf I x)))) k (q+1):=by
 have d:=UP (L:=L) (x:=jf I x) (by rw[h.len];exact N);have w:x∈E b:=lA v;have G:=GR h.jy (jf I x);refine⟨by simp[h.len], λy s=> ?_,by rw[Dx d,lS (Ne.symm i)];exact h.hd, λt g p a F=> ?_, λT a y c l s H A B=> ?_⟩
 . rcases L8 s with e|rfl
   . exact h.jy y e
   exact⟨by have:=G.1;omega,Q⟩
 . rw[Dx d];by_cases e:jf I a=jf I x
   . rw[lZ e,e];have U:=h.le t g p b j;have V:=g.ed b x j w m u i;have W:=h.le t g p x m;omega
   rw[lS e];exact h.le t g p a F
 have r:(pl a<k\/pl a=k/\y∈(E a).take q)\/(a=b/\y=x):=by
  rcases c with c|⟨e,c⟩
  . exact .inl (.inl c)
  have z:=D a l.1 e;subst z;rw[List.take_add_one,v,lT]at c;rcases c with c|c
  . exact .inl (.inr ⟨e,c⟩)
  simp at c;exact .inr ⟨rfl,c⟩
 rw[Dx d,Dx d];have O:jf I a≠jf I x:= λe=>by have:=T a b x l j w m u i e.symm;rcases c with c|⟨e,_⟩<;>omega
 rw[lS O];rcases r with r|⟨rfl,rfl⟩
 . have:=h.cl T a y r l s H A B;by_cases e:jf I y=jf I x
   . rw[lZ e];rw[e]at this⊢;omega
   rw[lS e];exact this
 rw[lZ rfl];omega
theorem WQ.bad(h:WQ E n P I C f pl L k q)(a:EU P n b)(j:(E b)[q]?=K x)(c:EU P n x)(e:jf I x≠jf I b)(g:jf I x≠f)(m:¬max (cf L (jf I x)) (cf L (jf I b)+cf C (jf I x))<=4294967295):∀t,Wr E (EU P n) (jf I) f (cf C) t->(∀b,EU P n b->0<=t (jf I b))->∃b,EU P n b/\4294967295<t (jf I b):= λt d i=>by have p:=h.le t d i b a;have r:=d.ed b x a (lA j) c e g;have l:=GR h.jy (jf I x);have s:=l.2;exact⟨x,c,oM⟩
def X4(E:Nat->List Nat)(n:Nat)(P:Nat->Bool)(I:List Nat)(C:List Int)(f:Nat)(pl:Nat->Nat)(L:List Int)(small:Bool):Prop:=(small=true/\∃k,WQ E n P I C f pl L k 0/\∀b,b<n->pl b<k)\/(small=false/\∀t,Wr E (EU P n) (jf I) f (cf C) t->(∀b,EU P n b->0<=t (jf I b))->∃b,EU P n b/\4294967295<t (jf I b))
theorem X4.pass{D:Nat->Nat->Bool}{p:Nat->Prop}(g:Hd E n pl D)(s:K6 E n D p (jf I))(r:TA E n D p (jf I) (EU P n) f)(v:∀c,0<=cf C c)(h:X4 E n P I C f pl L true):Tz E (EU P n) (jf I) f (cf C) (cf L):=by
 rcases h with⟨_,k,h,y⟩|⟨e,_⟩
 . (have T:Top E n P I f pl:= λa b x w d l m i j u=>r.lr g s w d l m i j u);exact⟨⟨⟨h.hd, λb x d l m i j=>h.cl T b x (.inl (y b d.1)) d l m i j⟩, λt q b d=>h.le t q (λb d=>q.ji g r v d) b d⟩, λb d=>(GR h.jy _).2⟩
 cases e
theorem X4.iS{D:Nat->Nat->Bool}{d:Nat->Prop}(g:Hd E n pl D)(r:TA E n D d (jf I) (EU P n) f)(i:∀c,0<=cf C c)(h:X4 E n P I C f pl L false):Lj E (EU P n) (jf I) f (cf C):= λt a=>by
 rcases h with⟨e,_⟩|⟨_,h⟩
 . cases e
 exact h t a λb j=>a.ji g r i j
end
theorem Uf(w:Y)(a:Array J)(e:Aj)(G:Nat)(h:a.size=G)(b:G<=maxLen):(Ac w (Ak a e)).drew.ownsRow w e 1 (Z w 0 G) 0 []:=⟨rfl,.inr ⟨w,G,a,rfl,Nat.le_refl _,pH,nZ _,b,oM,sP⟩⟩
theorem Vh(n:Nat)(w:Y)(p:n<=4194304):
 Ai Ap 267 #[Z M 0 0,n] w λe f=>∃v,e=Al v/\Ab f w 2 1 v 0 []/\Ah w w f:=by
 obtain⟨b,i,k,l,d⟩:=mN Br;by_cases m:n=0
 . subst m;go_enter func267,ntmps267;go_wp2;go_ret;exact⟨_,rfl,mI _ _ _ _,lu _ _⟩
 have q:(0:Int)<(n:Int):=oM;have j:(Builtin.firstCells b.size 0 (Z M 0 0)).run Ap w.drew=.ok (([]:List J).toArray) w.drew:=run_firstCells_none w.drew b.size 0 0 0;have c:∀ty,(Builtin.append_ #[29,3] ty #[Z M 0 0,n]).run Ap w=.ok (Z w (0+n) (grownCap w (0+n) 0 2)) (Ac w.drew (Ak (([]:List J).toArray++Builtin.zeroCells (Ag Af 0).cells n++Builtin.zeroCells (Ag Af 0).cells (grownCap w (0+n) 0 2-(0+n))) 2)):= λty=>
  Lib.run_append_grow_zeros w 29 3 ty 2 b (Ag Af 0) Af Af underlying29 underlying3 i k M 0 0 [] j n oM (by rw[l];omega) oM oM (by rw[d];omega) (growslice_fits oM (by rw[d];omega))
 have h:=grownCap_ge w (0+n) 0 2;have a:=grownCap_le_maxLen w (0+n) 0 2 oX;generalize grownCap w (0+n) 0 2=G at c h a;have g:Ae (G<=maxLen):=a;unfold maxLen at a;go_enter func267,ntmps267;go_wp2_with (at_builtin;refine Lib.wpList_append_run _ rfl _ _ _ _ rfl _ _ rfl rfl _ _ (c _) ?_);all_goals
  go_ret;exact⟨_,rfl,Uf w _ _ G (by simp[Builtin.zeroCells];omega) g,Ar (Aq _ _) lR (At _)⟩
def MH(w:Y)(s:J)(fs:List MF):Prop:=∃a:List (MF×VF),a.map Prod.fst=fs/\Rd w 4 s fs (Ad BR a)/\∀x∈a,DF w x.2 x.1/\Hh x.2.p/\Hh x.2.l
theorem MH.a7{e:Y}(h:MH w s fs)(c:Ah B w e)(b: ↑w<=B):MH e s fs:=by obtain⟨i,f,g,a⟩:=h;exact⟨i,f,g.a7 c b, λx d=>⟨(a x d).1.a7 c b,(a x d).2⟩⟩
theorem RM{fn:Nat}{f:MF}(h:p.aD[fn]?=K f)(e co j:Int):Fx p ⟨fn,e,co,j⟩↔(0<=e/\e<(f.bO:Int))/\(0<=co/\co<((f.gU.length+ ↑f.gW:Nat):Int))/\(f.gU++f.gW)[co.toNat]?=K 3:=by
 constructor
 . rintro⟨g,d,k,b,c,a⟩;simp only[lD]at d b c a;rw[h]at d;obtain rfl:=lP d;unfold AO at a;split at a
   . simp at a
   rename_i m;rw[lN]at a;by_cases q:co.toNat<(f.gU++f.gW).length
   . rw[an q]at a⊢;refine⟨⟨b,c⟩,⟨oM,by rw[lG]at q;omega⟩,?_⟩;simpa using a
   rw[lW oM]at a;simp at a
 rintro⟨⟨b,c⟩,⟨a,l⟩,i⟩;refine⟨f,by simp only[lD];exact h,oS,b,c,?_⟩;unfold AO;rw[lS oS,lN,i];rfl
theorem Ep(v:VP)(p:MP)(D b co g:Int)(w:Y)(hs:p.small)(h:Dm w v p)(aH:MH w v.f p.aD):
 Ai Ap 108 #[Am #[v.r,v.k,v.f,v.t],Am #[D,b,co,Ag .u32 g]] w λe w'=>AM e (Fx p ⟨D,b,co,g⟩)/\Ah w w w':=by
 obtain⟨vr,vk,vf,vt⟩:=v;obtain⟨ys,aq,am,au⟩:=aH;simp only[]at am;obtain⟨z,i,aA⟩:∃a c,vr=Z a p.aC c:=by obtain⟨_,_,hq,_⟩:=h.aC;exact hq.bW
 obtain⟨A,j,aE⟩:∃a c,vk=Z a p.dk c:=h.dk.bW;obtain⟨B,l,aF⟩:∃a c,vt=Z a p.e8 c:=h.e8.bW;subst aA aE aF;have aw:ys.length=p.aD.length:=by rw[<-aq];simp
 obtain⟨a2,c2,e2⟩:=am.bW;subst e2;have N:=Av (d5 am (d5 aq (d5 au (d5 hs.func aw))));have hm:=hs.aD;clear am aq au aw hs h;generalize p.aC.length=n at*;generalize p.dk.length=q at*;generalize p.e8.length=s at*;generalize hM:p.aD.length=m at*;have HL:=Av hM;have G:Ae (Ah w w (Ac (Ac w (Ak #[Z z n i,Z A q j,Z a2 m c2,Z B s l] 37)) (Ak #[D,b,co,Ag .u32 g] 96))/\En (Ac (Ac w (Ak #[Z z n i,Z A q j,Z a2 m c2,Z B s l] 37)) (Ak #[D,b,co,Ag .u32 g] 96)) ((w:Nat)+1) D b co (Ag .u32 g)):=by refine⟨Ar (Aq _ _) lR (Aq _ _),?_⟩;have:=En.new (Ac w (Ak #[Z z n i,Z A q j,Z a2 m c2,Z B s l] 37)) D b co (Ag .u32 g) 96;simpa using this
 by_cases q0:0<=D/\D<(m:Int)
 . have aj:decide (0<=D/\D<(m:Int))=true:=decide_eq_true q0
   obtain⟨fn,rfl⟩:=mA q0.1;have aP:fn<m:=oM;clear q0;obtain⟨⟨f,v⟩,P⟩:∃y,ys[fn]?=K y:=⟨_,an (by rw[N.2.2.2.2];omega)⟩;have e1:=BF N.2.1 P;have ao:=N.2.2.1 _ (lA P);have F:=Av (d5 ao.1 (d5 ao.2.1 (d5 ao.2.2 (d5 (N.2.2.2.1 _ (lA e1)) e1))));rcases N.1.2 with⟨e0,_⟩|⟨d,C,c',e1,ae⟩
   . omega
   simp only[lB,mB]at e1;obtain⟨rfl,rfl⟩:=e1;have E:=Rd.elem Az ae fn _ P 0 _ rfl;have Q:=Rd.elem Az ae fn _ P 1 _ rfl;have R:=Rd.elem Az ae fn _ P 2 _ rfl;have S:=Rd.elem Az ae fn _ P 3 _ rfl;rw[lJ]at E;clear ae P;simp only[]at E Q R S;obtain⟨I,L,ep⟩:=F.1.1.bW;obtain⟨al,cl,el⟩:=F.1.2.1.bW;obtain⟨H,cc,ec⟩:=F.1.2.2.bW;obtain⟨vp,vl,vc⟩:=v;simp only[]at ep el ec E Q R S;subst ep el ec;have k0:=(G.1.cell (g8 E)).trans E;have k1:=(G.1.cell (g8 Q)).trans Q;have k2:=(G.1.cell (g8 R)).trans R;have k3:=(G.1.cell (g8 S)).trans S;have nb:¬d=w.heap.size:=mR (g8 E);have aJ:¬d= ↑w+1:=by have:=g8 E;simp only[]at this;omega
   have aM:¬d= ↑w+1+1:=by have:=g8 E;simp only[]at this;omega
   have mb:d<w.heap.size:=g8 E;go_enter func108,ntmps108;go_wp2_with fail;refine(Bf (fn:Int) (m:Int) _).mono ?_;rintro e u ⟨rfl,rfl⟩;rw[aj];go_wp2_with fail;have aG:(fn:Int)<(m:Int):=oM;have BX:Ah w w (Ac (Ac (Ac w (Ak #[Z z n i,Z A q j,sO d C m c2,Z B s l] 37)) (Ak #[fn,b,co,Ag .u32 g] 96)) (Ak #[sN,sN,sN,sN,sN,iZ 0,sN,sN] 162)).drew:=Ar (Ar G.1 lR (Aq _ _)) lR (At _);have x0:=(BX.cell (g8 E)).trans E;have x1:=(BX.cell (g8 Q)).trans Q;have x2:=(BX.cell (g8 R)).trans R;have x3:=(BX.cell (g8 S)).trans S;go_region;have B1:Ae (Ah w w ((Ac (Ac (Ac w (Ak #[Z z n i,Z A q j,sO d C m c2,Z B s l] 37)) (Ak #[fn,b,co,Ag .u32 g] 96)) (Ak #[Z z n i,Z A q j,sO d C m c2,Z B s l,Z I f.gU L,f.gV,Z al f.gW cl,Z H f.bO cc] 162)).drew)):=Ar (Ar G.1 lR (Aq _ _)) lR (At _);have A1:Ae (En ((Ac (Ac (Ac w (Ak #[Z z n i,Z A q j,sO d C m c2,Z B s l] 37)) (Ak #[fn,b,co,Ag .u32 g] 96)) (Ak #[Z z n i,Z A q j,sO d C m c2,Z B s l,Z I f.gU L,f.gV,Z al f.gW cl,Z H f.bO cc] 162)).drew) ((w:Nat)+1) fn b co (Ag .u32 g)):=(G.2.alloc _).a7 (At _);have A2:Ae (Pt ((Ac (Ac (Ac w (Ak #[Z z n i,Z A q j,sO d C m c2,Z B s l] 37)) (Ak #[fn,b,co,Ag .u32 g] 96)) (Ak #[Z z n i,Z A q j,sO d C m c2,Z B s l,Z I f.gU L,f.gV,Z al f.gW cl,Z H f.bO cc] 162)).drew) ((w:Nat)+1+1) (Z z n i) (Z A q j) (sO d C m c2) (Z B s l) (Z I f.gU L) f.gV (Z al f.gW cl) (Z H f.bO cc)):=by
    have:=(Pt.new (Ac (Ac w (Ak #[Z z n i,Z A q j,sO d C m c2,Z B s l] 37)) (Ak #[fn,b,co,Ag .u32 g] 96)) (Z z n i) (Z A q j) (sO d C m c2) (Z B s l) (Z I f.gU L) f.gV (Z al f.gW cl) (Z H f.bO cc) 162).a7 (At _);have aI:(Ac (Ac w (Ak #[Z z n i,Z A q j,sO d C m c2,Z B s l] 37)) (Ak #[fn,b,co,Ag .u32 g] 96)).heap.size= ↑w+1+1:=sP
    rw[aI]at this;exact this
   generalize (Ac (Ac (Ac w (Ak #[Z z n i,Z A q j,sO d C m c2,Z B s l] 37)) (Ak #[fn,b,co,Ag .u32 g] 96)) (Ak #[Z z n i,Z A q j,sO d C m c2,Z B s l,Z I f.gU L,f.gV,Z al f.gW cl,Z H f.bO cc] 162)).drew=W1 at B1 A1 A2⊢;have O:=Av (d5 B1.o (d5 A1.o A2.o));clear B1 A1 A2 G N E Q R S k0 k1 k2 k3 nb aJ aM mb aj x0 x1 x2 x3 aG;have V:=Av (RM F.2.2.2.2 b co g);obtain⟨i0,i1,i2,i3⟩:=O.2.1;obtain⟨g0,g1,g2,g3,g4,g5,g6,g7⟩:=O.2.2;have aQ:=F.2.2.2.1.2.2;go_wp2_with fail;refine(Bf b (f.bO:Int) _).mono ?_;rintro e u ⟨rfl,rfl⟩;by_cases U:0<=b/\b<(f.bO:Int)
   . have hA:decide (0<=b/\b<(f.bO:Int))=true:=decide_eq_true U
     rw[hA];go_wp2_with fail;refine(GW (Z z n i) (Z A q j) (sO d C m c2) (Z B s l) ⟨Z I f.gU L,Z al f.gW cl,Z H f.bO cc⟩ f co _ F.2.2.2.1 (F.1.a7 O.1 lR)).mono ?_;rintro e u ⟨⟨bh,rfl,ah⟩,T⟩;have X:=Av (d5 (Ar O.1 lR T) (d5 (O.2.1.a7 T) (O.2.2.a7 T)));cases bh
     . (have W:Ae (¬Fx p ⟨fn,b,co,g⟩):= λe=>absurd (ah.2 ⟨(V.1 e).2.1.1,by have:=(V.1 e).2.1.2;omega⟩) nR);clear ah U hA;go_wp2;go_ret;exact⟨.no W,X.1⟩
     have hl:Jm f co:=ah.1 rfl;obtain⟨k,rfl⟩:=mA hl.1;(have hk:k<(f.gU++f.gW).length:=by have:=hl.2;rw[lG];omega);obtain⟨x,hx⟩:∃x,(f.gU++f.gW)[k]?=K x:=⟨_,an hk⟩;(have HY:Ae ((x==3)=true↔Fx p ⟨fn,b,k,g⟩):=by show _↔_;have h2:=hl.2;rw[V.o,lD,hx];simp[U];intro _;omega);have HX:=Av hx;clear ah U hA hl hk hx V;obtain⟨i0,i1,i2,i3⟩:=X.2.1;obtain⟨g0,g1,g2,g3,g4,g5,g6,g7⟩:=X.2.2;go_wp2_with fail;refine(IM (Z z n i) (Z A q j) (sO d C m c2) (Z B s l) ⟨Z I f.gU L,Z al f.gW cl,Z H f.bO cc⟩ f k x _ F.2.2.2.1 (F.1.a7 X.1 lR) HX).mono ?_;rintro e u' ⟨rfl,T⟩;have HE:=Av (Ar X.1 lR T);clear T i0 i1 i2 i3 g0 g1 g2 g3 g4 g5 g6 g7;go_wp2;go_ret;exact⟨.of HY,HE⟩
   have hA:decide (0<=b/\b<(f.bO:Int))=false:=mU U
   (have W:Ae (¬Fx p ⟨fn,b,co,g⟩):= λe=>U (V.1 e).1);rw[hA];go_wp2;go_ret;exact⟨.no W,O.1⟩
 have W:Ae (¬Fx p ⟨D,b,co,g⟩):= λ⟨f,h1,h2,_⟩=>q0 ⟨h2,by have:=(i8.1 h1).1;simp only[]at this h2;rw[HL]at this;omega⟩
 have aj:decide (0<=D/\D<(m:Int))=false:=mU q0
 clear N;go_enter func108,ntmps108;go_wp2_with fail;refine(Bf D (m:Int) _).mono ?_;rintro e u ⟨rfl,rfl⟩;rw[aj];go_wp2;go_ret;exact⟨.no W,G.1⟩
def Cs:J->Option (DataW Unit×List MemPlace)
 |.map (K b)=>K (.lit (.int Af (b:Int)),[])
 |_=>M
theorem Ga{y:DataW Unit×List MemPlace}(h:Cs v=K y):∃b:Nat,v=.map (K b)/\y=(.lit (.int Af (b:Int)),[]):=by
 cases v with
 | map o=>
   cases o with
   |none=>cases h
   |some b=>exact⟨b,rfl,(lP h).symm⟩
 |_=>cases h
theorem I6{H:Type}(f:Lit×DataW H->Bool):∀l:List (Lit×DataW H),(l.foldr DataW.insert []).any f=l.any f
 |[]=>rfl
 |x::r=>by rw[List.foldr_cons,Go.Maps.any_insert,I6 f r,List.any_cons]
theorem Up{b d:Nat}(h:AP w b d D):Go.Maps.size D=0↔∀z,Go.Maps.has D (.int Af z)=false:=by
 obtain⟨a,j,k,f,l,rfl⟩:=h;rw[Go.Maps.size_eq,Go.length_read];constructor
 . intro e z;rw[Go.Maps.has_eq,I6];have:a.toList=[]:=mL (by simpa using e);rw[this];rfl
 intro g;cases hl:a.toList with
 | nil=>(have:a.toList.length=0:=by rw[hl];rfl);simpa using this
 | cons x r=>obtain⟨y,c⟩:=f.reads x (by rw[hl];simp);obtain⟨z,_,i,_⟩:=Go.Maps.keyOf_int_inv underlying2 (Go.WideElems.rd_key c);have:=g z;rw[Go.Maps.has_eq,I6,hl,nQ,List.any_cons]at this;rw[Go.WideElems.rg_of c]at this;simp only[i,DN,decide_true,Bool.true_or]at this;cases this
def GL(D W:DataW Unit)(left:Lit->Bool)(E:Int->Bool):Prop:=∀z:Int,Go.Maps.has D (.int Af z)=(Go.Maps.has W (.int Af z)&& !left (.int Af z)&&E z)
theorem GL.iu{E:Int->Bool}{x:Int}(h:GL D W left E)(c:Go.Maps.IsMap D)(b:Go.Maps.has W (.int Af x)=true)(a:E x=true):GL (D.put (.int Af x) (.agg [])) W (λz=>left z&& !z.sameKey (.int Af x)) E:=by
 intro z;rw[LO D c,h z];simp only[DN];by_cases e:z=x
 . subst e;simp[b,a]
 simp[e,Ne.symm e]
theorem GL.no{E:Int->Bool}{x:Int}(h:GL D W left E)(a:E x=false):GL D W (λz=>left z&& !z.sameKey (.int Af x)) E:=by
 intro z;rw[h z];simp only[DN];by_cases e:z=x
 . subst e;simp[a]
 simp[e]
theorem QF(k n:Nat)(W:DataW Unit)(E:Int->Bool)(w:Y)(aZ:n<=1048576)(h:w.ownsMap Ap 2 Cs k n W)(aH:∀(z:Int) (c:Nat),(∀zd,W.atKey (.int Af z) zd=.lit (.int Af (c:Int)))->∃l D,l<=1048576/\AP w c l D/\(Go.Maps.size D=0↔E z=true)):
 Ai Ap 89 #[.map (K k)] w λe w'=>∃(g cap:Nat) (a:List Int),e=Al (Z g a cap)/\Ab w' w 2 1 (Z g a cap) a (Ad As a)/\a.Pairwise (· < ·)/\(∀z,z∈a↔Dv z/\Go.Maps.has W (.int Af z)=true/\E z=true)/\Ah w w w':=by
 have aX:=h.lt;have HS:=Av aH;clear aH;have bp:= @run_makeMap Ap;have au:=h.alloc (.map #[] 0);have U:AP (Ac w (.map #[] 0)) w 0 (.map []):=World.ownsMap_made _ _ _ _;have S:(Ac w (.map #[] 0)).heap.size= ↑w+1:=sP
 go_enter func89,ntmps89;go_wp2_with (first
  |(at_range;refine wpList_range_own _ rfl _ 156 rfl 2 158 EY underlying156 _ k n _ rfl au ?_;intro w0 aw N aS)
  |go_in)
 go_frame;have T:=Av (d5 (World.ownsMap.kept U N sP) (((Aq w (.map #[] 0)).grown N (Aq _ _).size (λj p=>by cases p)):Ah w w w0));have br:=h.size_le;clear N aS U au;generalize aW:(Ac w (.map #[] 0)).heap.size=C at aw S⊢;clear aW;have G:=Av S;clear S;go_loopw [4] (λ_ wr=>∃(left:Lit->Bool) (l f:Nat) (D:DataW Unit),wr.ranges Ap 2 Cs k C n W left l/\f+l<=Go.Maps.size W/\AP wr w f D/\GL D W left E/\Ah w w wr) (λ_ wr=>wr.rangeLeft k C)
 case atStart=>exact⟨_,_,0,.map [],aw,sP,T.1, λz=>by cases hh:Go.Maps.has W (.int Af z)<;>rfl,T.2⟩
 obtain⟨left,l,f,D,A,bf,r,u,q⟩:=hrel;go_wp2_with (first
  |(at_next;refine wpList_next_ranges _ rfl _ rfl 2 EY Cs (Value.int Af) (λ(c:Nat)=>Value.map (K c)) (λbt kl hk=>by obtain⟨x,R,_⟩:=Go.Maps.keyOf_int_inv underlying2 hk;exact⟨x,R⟩) (λv y Q=>by obtain⟨c,rfl,_⟩:=Ga Q;exact⟨c,rfl⟩) k C n _ _ _ rfl A ?_ ?_)
  |go_in)
 . intro aY aQ;have s:=Av (d5 r (d5 u q));clear r u q A;go_wp2_with fail;refine(Jg w f D _ oM s.1).mono ?_;rintro e u9 ⟨g9,X,a,rfl,aJ,aI,aq,V⟩;have t:Ae (Ab u9 w 2 1 (Z g9 a X) a (Ad As a)/\a.Pairwise (· < ·)/\(∀z,z∈a↔Dv z/\Go.Maps.has W (.int Af z)=true/\E z=true)/\Ah w w u9):=by refine⟨A9 aJ s.2.2.size,aI, λz=> ?_,Ar s.2.2 lR V⟩;rw[aq,s.2.1 z,aQ];simp
   clear aJ aI aq V;go_wp2;go_ret;exact⟨g9,X,a,rfl,t.1,t.2.1,t.2.2.1,t.2.2.2⟩
 intro x c kl y ps d ae aP bj Q ah B ao am aT bi;obtain⟨x',ex,rfl,aU⟩:=Go.Maps.keyOf_int_inv underlying2 aP;obtain rfl:x=x':=by cases ex;rfl
 obtain⟨c',ec,ey⟩:=Ga Q;obtain⟨rfl,rfl⟩:=Prod.mk.inj ey;clear ey;obtain rfl:c=c':=by cases ec;rfl
 obtain⟨H,F,bg,aE,aj⟩:=HS.o x c ah;have P:Ah w w d:=q.grown am q.size (λj p=>by cases p;have:=G.o;omega);have aG:AP d w f D:=World.ownsMap.kept r am (by have:=G.o;simp;omega);have aF:AP d c H F:=aE.a7 P;have O:=aF;unfold AP at O;clear aT;have aR:¬C=w.heap.size:=by have:=G.o;omega
 have b:=Av (d5 aG (d5 P (d5 u (d5 (nV r) (d5 A.left_eq (Go.Maps.has_true_of_atKey ah))))));clear aG P u r A q aE aF;by_cases L:Go.Maps.size F=0
 . have i:Ae ((Ac d (Ak #[x] 2)) d=K ↑x/\AP (Ac d (Ak #[x] 2)) w f D/\Ah w w (Ac d (Ak #[x] 2))/\¬(d:Nat)= ↑w/\¬k= ↑w/\E x=true):=⟨(AA.new d #[x] 2).cell 0,b.1.a7 (Aq _ _),Ar b.2.1 lR (Aq _ _),by have:=nj b.1;omega,oM,aj.1 L⟩
   have aA:=B.alloc (Ak #[x] 2);have aM:=Av aA;clear aA B;go_wp2_with (first
    |(at_len;refine wpList_len_own _ rfl _ 158 rfl 2 56 underlying158 _ c H _ rfl O ?_;rw[L])
    |fail)
   refine(Db w f d 1 D x _ aU oM i.1 i.2.2.2.1 i.2.1).mono ?_;rintro e u4 ⟨rfl,s4,I⟩;have m:=Av (d5 (World.ranges.kept aM I (by simp;exact i.2.2.2.2.1) (by simp;exact aR)) (d5 s4 (d5 (b.2.2.1.iu b.2.2.2.1 b.2.2.2.2.2 i.2.2.2.2.2) (i.2.2.1.grown I i.2.2.1.size (λj p=>by cases p;exact Nat.le_refl _)))));clear s4 I;go_wp2;go_roundw;(case rel=>exact⟨_,ae,f+1,_,m.1,oM,m.2.1,m.2.2.1,m.2.2.2⟩);rw[m.1.left_eq,b.2.2.2.2.1];exact ao
 have bq:((Go.Maps.size F:Nat):Int)≠0:=oM;have hE:E x=false:=by cases R:E x with
  |false=>rfl
  |true=>exact absurd (aj.2 R) L
 go_wp2_with (first
  |(at_len;refine wpList_len_own _ rfl _ 158 rfl 2 56 underlying158 _ c H _ rfl O ?_)
  |go_in)
 go_roundw;case rel=>exact⟨_,ae,f,D,B,oM,b.1,b.2.2.1.no hE,b.2.1⟩
 rw[B.left_eq,b.2.2.2.2.1];exact ao
theorem Rd.jI{ad:Addr}{n c:Nat}{xs:List Int}(h:Rd w 1 (Z (K ad) n c) n (Ad As xs)):∀j u,(Ad As xs)[j]?=K u->w (ad.add j)=K u:=by
 intro j u a;rcases h.2 with⟨rfl,_⟩|⟨g,o,c',e,b⟩
 . have:=(i8.1 a).1;rw[h.1]at this;omega
 simp only[lB,lH,mB]at e;obtain⟨rfl,rfl⟩:=e;rw[Addr.add_lit];exact b j u a
theorem De(xs:List Int):∀u∈Ad As xs,u.oneCell'=true:=by intro u b;obtain⟨x,_,a⟩:=ni.1 b;simp[As]at a;subst a;rfl
theorem QC{xs:List Int}{n:Nat}(h:Ab w base e 1 v n (Ad As xs))(a:List Int)(b:a.length=0):Ab w base e 1 v (n+ ↑a) (Ad As (xs++a)):=by obtain rfl:=mL b;simpa using h
theorem Ns{w u b:Y}{n:Nat}{xs:List J}(h:Ah B w u)(f:Ab u w e 1 v n xs)(a:B<= ↑w)(c:u.grownBy b v.ownBlock):Ah B w b:=h.grown c (lQ a h.size) (λk d=>lQ a (f.lt k d).1)
theorem PY(g:Nat)(m n:J)(xs a:List Int)(w:Y)(T:xs.length<=1048576)(U:a.length<=1048576)(x:Rd w 1 m xs (Ad As xs))(y:Rd w 1 n a (Ad As a))(I:Hh m)(L:Hh n)
 (i:w g=K m) (j:w ⟨g,1,M⟩=K n):
 Ai Ap 260 #[Z g 2 2] w λe h=>∃v,e=Al v/\Ab h w 2 1 v (xs.length+ ↑a) (Ad As (xs++a))/\Ah w w h:=by
 have H:Ae (xs.length<=1048576/\a.length<=1048576/\Rd w 1 m xs (Ad As xs)/\Rd w 1 n a (Ad As a)/\Hh m/\Hh n):=⟨T,U,x,y,I,L⟩
 obtain⟨Q,c1,rfl⟩:=x.bW;obtain⟨R,c2,rfl⟩:=y.bW;clear x y I L;obtain⟨q,p,E,F,G⟩:=mN Br;have C:Ae (w g=K (Z Q xs c1)/\w ⟨g,1,M⟩=K (Z R a c2)):=⟨i,j⟩
 go_enter func260,ntmps260;go_wp2;go_loopw [3,11] (λs c wr=>((c=Ag Af 0/\s=Ag Af 0)\/(c=Ag Af 1/\s=Ag Af (xs:Int))\/(c=Ag Af 2/\s=Ag Af ((xs.length+ ↑a:Nat):Int)))/\wr=w) (λ_ c _=>2-(intOf c).toNat)
 case atStart=>exact⟨.inl ⟨rfl,rfl⟩,rfl⟩
 obtain⟨z,rfl⟩:=hrel;rcases z with⟨rfl,rfl⟩|⟨rfl,rfl⟩|⟨rfl,rfl⟩
 . go_wp2;go_roundw;(case rel=>exact⟨.inr (.inl ⟨rfl,sP⟩),by trivial⟩);simp[intOf]
 . go_wp2;go_roundw;(case rel=>exact⟨.inr (.inr ⟨rfl,sP⟩),by trivial⟩);simp[intOf]
 go_wp2_with fail;refine(Vh (xs.length+a.length) _ oM).mono ?_;rintro e O ⟨X,rfl,N,D⟩;have b:Ae (Ab O wr 2 1 X 0 []/\Ah wr wr O):=⟨N,D⟩
 clear N D i j;obtain⟨W,S⟩:∃W,W=wr:=⟨_,rfl⟩;subst S;go_wp2;go_loopw [6,27] (λv c wr=>((c=Ag Af 0/\Ae (Ab wr W 2 1 v 0 ([]:List J)))\/(c=Ag Af 1/\Ae (Ab wr W 2 1 v (0+xs.length) (Ad As ([]++xs))))\/(c=Ag Af 2/\Ae (Ab wr W 2 1 v (xs.length+ ↑a) (Ad As (xs++a)))))/\Ae (Ah W W wr)) (λ_ c _=>2-(intOf c).toNat)
 case atStart=>exact⟨.inl ⟨rfl,b.1⟩,b.2⟩
 clear b;obtain⟨z,d⟩:=hrel;have i:=C.1;have j:=C.2;rw[<-d.cell (g8 i)]at i;rw[<-d.cell (g8 j)]at j;rcases z with⟨rfl,b⟩|⟨rfl,b⟩|⟨rfl,b⟩
 . rcases H.2.2.2.2.1 with e|⟨ad,V,c',e⟩
   . simp only[lB]at e;obtain⟨rfl,f,rfl⟩:=e;have hN:Ae (xs.length=0):=f;rw[f]at i;(have B:∀ty,(Builtin.append_ #[29,29] ty #[u6,Z M 0 0]).run Ap wr=.ok u6 wr:= λty=>run_append_owned_none (P:=Ap) wr W 29 ty 2 q 1 underlying29 p u6 _ _ b);clear f;go_wp2_with (at_builtin;refine Lib.wpList_append_run _ rfl _ _ _ _ rfl _ _ rfl rfl _ _ (B _) ?_);go_roundw;(case rel=>exact⟨.inr (.inl ⟨rfl,QC (xs:=[]) b xs hN⟩),d⟩);simp[intOf]
   simp only[lB]at e;obtain⟨rfl,f,rfl⟩:=e;have u:Ae (Rd wr 1 (Z (K ad) xs c1) xs (Ad As xs)):=H.2.2.1.a7 d lR;clear f;go_wp2_with (at_builtin;refine wpList_append_own _ rfl _ _ 29 rfl W 2 q (Ag Af 0) 1 8 underlying29 p E F G rfl dC _ _ _ rfl b ad xs c1 (Ad As xs) rfl ?c1 ?c2 ?c3 ?c4 ?c5 ?c6 ?_);(case c1=>rw[AE As 1 Ay]);(case c2=>exact u.jI);(case c3=>exact De _);(case c4=>unfold maxLen;omega);(case c5=>omega);(case c6=>exact d.size);intro v' h l k A;(have t:Ae (Ab h W 2 1 v' (0+xs.length) (Ad As ([]++xs))):=by show World.ownsRow _ _ _ _ _ _ _;simpa using l);have r:Ae (Ah W W h):=Ns d b lR k;clear l k A;go_wp2;go_roundw;(case rel=>exact⟨.inr (.inl ⟨rfl,t⟩),r⟩);simp[intOf]
 . rcases H.2.2.2.2.2 with e|⟨ad,V,c',e⟩
   . simp only[lB]at e;obtain⟨rfl,f,rfl⟩:=e;have hN:Ae (a.length=0):=f;rw[f]at j;(have B:∀ty,(Builtin.append_ #[29,29] ty #[u6,Z M 0 0]).run Ap wr=.ok u6 wr:= λty=>run_append_owned_none (P:=Ap) wr W 29 ty 2 q 1 underlying29 p u6 _ _ b);clear f;go_wp2_with (at_builtin;refine Lib.wpList_append_run _ rfl _ _ _ _ rfl _ _ rfl rfl _ _ (B _) ?_);go_roundw;(case rel=>exact⟨.inr (.inr ⟨rfl,by have:=QC (xs:=[]++xs) b a hN;simpa[Ae]using this⟩),d⟩);simp[intOf]
   simp only[lB]at e;obtain⟨rfl,f,rfl⟩:=e;have u:Ae (Rd wr 1 (Z (K ad) a c2) a (Ad As a)):=H.2.2.2.1.a7 d lR;clear f;go_wp2_with (at_builtin;refine wpList_append_own _ rfl _ _ 29 rfl W 2 q (Ag Af 0) 1 8 underlying29 p E F G rfl dC _ _ _ rfl b ad a c2 (Ad As a) rfl ?c1 ?c2 ?c3 ?c4 ?c5 ?c6 ?_);(case c1=>rw[AE As 1 Ay]);(case c2=>exact u.jI);(case c3=>exact De _);(case c4=>unfold maxLen;omega);(case c5=>omega);(case c6=>exact d.size);intro v' h l k A;have t:Ae (Ab h W 2 1 v' (xs.length+ ↑a) (Ad As (xs++a))):=by show World.ownsRow _ _ _ _ _ _ _;simpa using l
   have r:Ae (Ah W W h):=Ns d b lR k;clear l k A;go_wp2;go_roundw;(case rel=>exact⟨.inr (.inr ⟨rfl,t⟩),r⟩);simp[intOf]
 go_wp2;go_ret;exact⟨_,rfl,b,d⟩
theorem MU(v:VP)(p:MP)(w:Y)(hs:p.small)(h:Dm w v p)(ao:MH w v.f p.aD):
 Ai Ap 87 #[Am #[v.r,v.k,v.f,v.t]] w λe w'=>AM e (Bz p)/\Ah w w w':=by
 obtain⟨E,D,C,vt⟩:=v;have z:=Av (d5 h.e8 (d5 hs (d5 h ao)));have hn:=hs.e8;obtain⟨a1,c1,e1⟩:∃a c,vt=Z a p.e8 c:=h.e8.bW;subst e1;clear h hs ao;have B:Ae _:=Mz.of w E D C (Z a1 p.e8 c1) 37;generalize am:p.e8.length=n at*;have I:=Av am;clear am;by_cases q0:64<n
 . (have P:Ae (¬Bz p):= λe=>absurd e.1 (by rw[I];omega));have aq:(64:Int)<(n:Int):=oM;clear z;go_enter func87,ntmps87;go_wp2;go_ret;exact⟨.no P,B.ej⟩
 have aq:¬(64:Int)<(n:Int):=oM;go_enter func87,ntmps87;go_wp2;go_loopw [12] (λi wr=>∃k:Nat,k<=n/\i=iZ k/\Ae (∀j,j<k->Fw p p.e8 j)/\Ae (Mz w wr E D C (Z a1 n c1))) (λi _=>n-(intOf i).toNat)
 case atStart=>exact⟨0,oM,rfl, λj hj=>oM,B⟩
 clear B;obtain⟨k,hk,rfl,HT,B⟩:=hrel;by_cases aj:k<n
 . obtain⟨x,N⟩:∃x,p.e8[k]?=K x:=⟨_,an (by rw[I];exact aj)⟩;rcases z.1.2 with⟨e0,_⟩|⟨b,o,c,e1,L⟩
   . omega
   simp only[lB,mB]at e1;obtain⟨rfl,rfl⟩:=e1;have O:=Rd.elem MT.dr L k x N 0 _ rfl;have i1:=Rd.elem MT.dr L k x N 1 _ rfl;have i2:=Rd.elem MT.dr L k x N 2 _ rfl;have i3:=Rd.elem MT.dr L k x N 3 _ rfl;rw[<-B.ej.cell (g8 O),lJ]at O;rw[<-B.ej.cell (g8 i1)]at i1;rw[<-B.ej.cell (g8 i2)]at i2;rw[<-B.ej.cell (g8 i3)]at i3;have HX:=Av N;have W:=Av L;clear L N;obtain⟨m,q,co,s⟩:=x;simp only[]at O i1 i2 i3;have nb:¬b=wr.heap.size:=mR (g8 O);have mb:b<wr.heap.size:=g8 O;have ah:Ae (Ah w w (Ac wr (Ak #[m,q,co,Ag .u32 s] 96))/\En (Ac wr (Ak #[m,q,co,Ag .u32 s] 96)) w E D C (sO b o n c1)/\En (Ac wr (Ak #[m,q,co,Ag .u32 s] 96)) wr m q co (Ag .u32 s)):=⟨Ar B.ej lR (Aq _ _),B.prog.alloc _,En.new _ _ _ _ _ _⟩
   go_wp2_with fail;generalize Ac wr (Ak #[m,q,co,Ag .u32 s] 96)=A at ah⊢;have l:=Av ah;clear ah O i1 i2 i3 nb mb B aq;obtain⟨p0,p1,p2,p3⟩:=l.2.1;obtain⟨r0,r1,r2,r3⟩:=l.2.2;have inst:=AC.some A;(have P0:= λn:AC A=>AC.cell p0 n);(have P1:= λn:AC A=>AC.cell p1 n);(have P2:= λn:AC A=>AC.cell p2 n);(have P3:= λn:AC A=>AC.cell p3 n);(have R0:= λn:AC A=>AC.cell r0 n);(have R1:= λn:AC A=>AC.cell r1 n);(have R2:= λn:AC A=>AC.cell r2 n);(have R3:= λn:AC A=>AC.cell r3 n);by_cases ae:Fx p ⟨m,q,co,s⟩
   . have G:Ae (Fx p ⟨m,q,co,s⟩):=ae;clear ae;by_cases q5:k=0
     . subst q5;(have HA:Ae (Fw p p.e8 0):= λc U=>by rw[HX]at U;obtain rfl:=lP U;exact⟨G, λi d hi=>oM⟩);refine AN kR kR ?_;(repeat(go_big_quiet_step ((first|(go_at_call 108;rename_i g;exact(Ep ⟨E,D,C,sO b o n c1⟩ p m q co s g.u z.2.1 (z.2.2.1.a7 (Ar l.1 lR g.h) lR) (z.2.2.2.a7 (Ar l.1 lR g.h) lR)).mono λe y h=>⟨h.1.true G,⟨⟨y,Ar g.h lR h.2⟩,rfl⟩⟩)))));refine wpQuiet_nil ?_;rintro y ⟨g,rfl⟩;have H:Ae (Mz w g.u E D C (sO b o n c1)):=⟨Ar l.1 lR g.h,l.2.1.a7 g.h⟩;go_wp2;go_roundw;(case rel=>exact⟨1,oM,by go_num,GQ HA HT,H⟩);exact oI
     obtain⟨i,rfl⟩:∃i,k=i+1:=⟨k-1,oM⟩;obtain⟨d,F⟩:∃d,p.e8[i]?=K d:=⟨_,an (by rw[I];omega)⟩;have y0:=Rd.elem MT.dr W i d F 0 _ rfl;have y1:=Rd.elem MT.dr W i d F 1 _ rfl;have y2:=Rd.elem MT.dr W i d F 2 _ rfl;have y3:=Rd.elem MT.dr W i d F 3 _ rfl;rw[<-l.1.cell (g8 y0),lJ]at y0;rw[<-l.1.cell (g8 y1)]at y1;rw[<-l.1.cell (g8 y2)]at y2;rw[<-l.1.cell (g8 y3)]at y3;obtain⟨R,S,Q,T⟩:=d;simp only[]at y0 y1 y2 y3;have HD:=Av F;clear F;(have Y0:= λn:AC A=>AC.cell y0 n);(have Y1:= λn:AC A=>AC.cell y1 n);(have Y2:= λn:AC A=>AC.cell y2 n);(have Y3:= λn:AC A=>AC.cell y3 n);have aw:((i+1:Nat):Int)-1=(i:Int):=oM;have aA:(0:Int)<((i+1:Nat):Int):=oM;by_cases V:Ku ⟨R,S,Q,T⟩ ⟨m,q,co,s⟩
     . have X:Ae (Ku ⟨R,S,Q,T⟩ ⟨m,q,co,s⟩):=V;(have HA:Ae (Fw p p.e8 (i+1)):= λc U=>by rw[HX]at U;obtain rfl:=lP U;refine⟨G, λi' d' hi F=> ?_⟩;obtain rfl:i'=i:=oM;rw[HD]at F;obtain rfl:=lP F;exact V);clear V;refine AN kR kR ?_;(repeat(go_big_quiet_step ((first|(go_at_call 108;rename_i g;exact(Ep ⟨E,D,C,sO b o n c1⟩ p m q co s g.u z.2.1 (z.2.2.1.a7 (Ar l.1 lR g.h) lR) (z.2.2.2.a7 (Ar l.1 lR g.h) lR)).mono λe y h=>⟨h.1.true G,⟨⟨y,Ar g.h lR h.2⟩,rfl⟩⟩)|(go_at_call 109;rename_i g;exact(N4 ⟨R,S,Q,T⟩ ⟨m,q,co,s⟩ g.u).mono λe y h=>⟨h.1.true X,⟨⟨y,Ar g.h lR h.2⟩,rfl⟩⟩)))));refine wpQuiet_nil ?_;rintro y ⟨g,rfl⟩;have H:Ae (Mz w g.u E D C (sO b o n c1)):=⟨Ar l.1 lR g.h,l.2.1.a7 g.h⟩;go_wp2;go_roundw;(case rel=>exact⟨i+1+1,oM,by go_num,GQ HA HT,H⟩);exact oI
     have X:Ae (¬Ku ⟨R,S,Q,T⟩ ⟨m,q,co,s⟩):=V;clear V;(have P:Ae (¬Bz p):= λe=>by exact X.o ((e.2 (i+1) (by rw[I];exact aj) _ HX).2 i _ rfl HD));refine AN kR kR ?_;(repeat(go_big_quiet_step ((first|(go_at_call 108;rename_i g;exact(Ep ⟨E,D,C,sO b o n c1⟩ p m q co s g.u z.2.1 (z.2.2.1.a7 (Ar l.1 lR g.h) lR) (z.2.2.2.a7 (Ar l.1 lR g.h) lR)).mono λe y h=>⟨h.1.true G,⟨⟨y,Ar g.h lR h.2⟩,rfl⟩⟩)|(go_at_call 109;rename_i g;exact(N4 ⟨R,S,Q,T⟩ ⟨m,q,co,s⟩ g.u).mono λe y h=>⟨h.1.false X,⟨⟨y,Ar g.h lR h.2⟩,rfl⟩⟩)))));refine wpQuiet_nil ?_;rintro y ⟨g,rfl⟩;have H:Ae (Mz w g.u E D C (sO b o n c1)):=⟨Ar l.1 lR g.h,l.2.1.a7 g.h⟩;go_wp2;go_ret;exact⟨.no P,H.ej⟩
   have G:Ae (¬Fx p ⟨m,q,co,s⟩):=ae;clear ae;(have P:Ae (¬Bz p):= λe=>by exact G.o (e.2 k (by rw[I];exact aj) _ HX).1);refine AN kR kR ?_;(repeat(go_big_quiet_step ((first|(go_at_call 108;rename_i g;exact(Ep ⟨E,D,C,sO b o n c1⟩ p m q co s g.u z.2.1 (z.2.2.1.a7 (Ar l.1 lR g.h) lR) (z.2.2.2.a7 (Ar l.1 lR g.h) lR)).mono λe y h=>⟨h.1.false G,⟨⟨y,Ar g.h lR h.2⟩,rfl⟩⟩)))));refine wpQuiet_nil ?_;rintro y ⟨g,rfl⟩;have H:Ae (Mz w g.u E D C (sO b o n c1)):=⟨Ar l.1 lR g.h,l.2.1.a7 g.h⟩;go_wp2;go_ret;exact⟨.no P,H.ej⟩
 have au:n=k:=oM;subst au;have HY:Ae (Bz p):=⟨by rw[I];omega,by rw[I];exact HT⟩;go_wp2;go_ret;exact⟨.iu HY,B.ej⟩
def Et(fs:List MF)(b:List Int)(i:Nat)(z:Int):Bool:=match fs[i]? with|some f=>(f.bO.any λx=>decide (x.op=28)&&decide (x.a=z))&& !b.contains z|none=>false
def Jf(fs:List MF)(b:List Int)(z:Int):Bool:=match fs[z.toNat]? with|some f=>(FY f).all λa=>b.contains a|none=>false
theorem Um{d:List Int}(k:i< ↑fs):(∀z,Et fs d i z=false)↔Jf fs d (i:Int)=true:=by
 unfold Et Jf;rw[lD,an k];simp only[oy];constructor
 . intro h a e;unfold FY at e;obtain⟨x,c,rfl⟩:=mG.1 e;obtain⟨f,g⟩:=nh.1 c;have:=h x.a;have j:(fs[i].bO.any λy=>decide (y.op=28)&&decide (y.a=x.a))=true:=List.any_eq_true.2 ⟨x,f,by simpa using g⟩;rw[j]at this;simpa using this
 intro h z;cases hz:d.contains z with
 |true=>simp
 | false=>simp only[Bool.not_false,Bool.and_true];rw[List.any_eq_false];intro x c b;simp only[nO,my]at b;have:=h x.a (mG.2 ⟨x,nh.2 ⟨c,by simpa using b.1⟩,rfl⟩);rw[b.2,hz]at this;cases this
theorem Xd:C7 fs a i=(!a.contains (i:Int)&&Jf fs a (i:Int)):=by unfold C7 Jf;rw[lD];rfl
structure Dj(u:Y)(fs:List MF)(base mb k:Nat)(Bk:Nat->Nat)(live:Nat->Bool)(dn:Nat->List Int):Prop where
 set:∀i,i<k->live i=true->∃cn D,cn<=1048576/\AP u (Bk i) cn D/\∀z,Go.Maps.has D (.int Af z)=Et fs (dn i) i z
 inj:∀i j,i<k->j<k->Bk i=Bk j->i=j
 ne:∀i,i<k->base<=Bk i/\Bk i≠mb
structure DE(u:Y)(mb cnt k:Nat)(Bk:Nat->Nat)(zs:List Int)(W:DataW Unit):Prop where
 own:u.ownsMap Ap 2 Cs mb cnt W
 has:∀z,Go.Maps.has W (.int Af z)=(decide (0<=z/\z<(k:Int))&& !zs.contains z)
 at_:∀i,i<k->zs.contains (i:Int)=false->∀zd,W.atKey (.int Af (i:Int)) zd=.lit (.int Af (Bk i:Int))
 size:Go.Maps.size W+zs.length=k
theorem ZC(z:Int):WideAt.IsKeyLit (Lit.int Af z):=trivial
theorem DE.start{a:Nat}{b:Nat->Nat}(h:u.ownsMap Ap 2 Cs a 0 (.map [])):DE u a 0 0 b [] (.map []):=⟨h, λz=>by
 have:¬(0<=z/\z<((0:Nat):Int)):=oM
 simp only[this,decide_false,Bool.false_and];rfl, λi c=>absurd c (Nat.not_lt_zero _),rfl⟩
theorem Dj.start{e:Nat}{b:Nat->Nat}{d:Nat->Bool}{c:Nat->List Int}:Dj u fs base e 0 b d c:=⟨λi a=>absurd a (Nat.not_lt_zero _), λi j a=>absurd a (Nat.not_lt_zero _), λi a=>absurd a (Nat.not_lt_zero _)⟩
theorem DE.put{a k c:Nat}{b:Nat->Nat}(h:DE u a k k b [] W)(j:g.ownsMap Ap 2 Cs a (k+1) (W.put (.int Af (k:Int)) (.lit (.int Af (c:Int))))):DE g a (k+1) (k+1) (λi=>if i=k then c else b i) [] (W.put (.int Af (k:Int)) (.lit (.int Af (c:Int)))):=by
 refine⟨j, λz=> ?_, λi l _ m=> ?_,?_⟩
 . rw[LO W (nV h.own),h.has z];simp only[List.contains_nil,Bool.not_false,Bool.and_true];by_cases e:(k:Int)=z
   . subst e;have:(0<=(k:Int)/\(k:Int)<((k+1:Nat):Int)):=oM
     simp only[this,decide_true,Bool.or_true,and_self]
   by_cases d:0<=z/\z<(k:Int)
   . have:(0<=z/\z<((k+1:Nat):Int)):=oM
     simp only[d,this,decide_true,Bool.true_or,and_self]
   have:¬(0<=z/\z<((k+1:Nat):Int)):=oM
   simp only[d,this,e,decide_false,Bool.or_false]
 . by_cases e:i=k
   . subst e;rw[Go.Maps.atKey_put_same (nV h.own) (ZC _)];simp
   rw[Go.Maps.atKey_put_other (λq=>e (by injection q with _ q;omega)),h.at_ i oM rfl];simp[e]
 rw[Go.Maps.size_put (World.ownsMap.tidy h.own EY),h.has];have:¬(0<=(k:Int)/\(k:Int)<(k:Int)):=oM
 have f:=h.size;simp only[this,decide_false,Bool.false_and,mh,lJ]at f⊢;simp[f]
theorem Dj.put{m:Y}{base l k c:Nat}{b:Nat->Nat}{q:Nat->Bool}{f:Nat->List Int}(h:Dj u fs base l k b q f)(w:∀i,i<k->∀a D,AP u (b i) a D->AP m (b i) a D)(p:∀i,i<k->b i≠c)(v:base<=c/\c≠l)(y:∃a D,a<=1048576/\AP m c a D/\∀z,Go.Maps.has D (.int Af z)=Et fs (f k) k z):Dj m fs base l (k+1) (λi=>if i=k then c else b i) q f:=by
 refine⟨λi n x=> ?_, λi j n A e=> ?_, λi n=> ?_⟩
 . by_cases e:i=k
   . subst e;simpa using y
   obtain⟨a,D,r,s,t⟩:=h.set i oM x;simp only[e,if_false];exact⟨a,D,r,w i oM _ _ s,t⟩
 . by_cases g:i=k
   . by_cases d:j=k
     . omega
     simp only[g,d,if_true,if_false]at e;exact absurd e.symm (p j oM)
   by_cases d:j=k
   . simp only[g,d,if_true,if_false]at e;exact absurd e (p i oM)
   simp only[g,d,if_false]at e;exact h.inj i j oM oM e
 by_cases e:i=k
 . simpa[e]using v
 simpa[e]using h.ne i oM
theorem Dj.kept{base f k:Nat}{a:Nat->Nat}{e:Nat->Bool}{c:Nat->List Int}(h:Dj u fs base f k a e c)(n:∀i,i<k->∀b D,AP u (a i) b D->AP g (a i) b D):Dj g fs base f k a e c:=⟨λi d p=>by obtain⟨b,D,j,l,m⟩:=h.set i d p;exact⟨b,D,j,n i d _ _ l,m⟩,h.inj,h.ne⟩
theorem SI{p r:Nat}{d:Nat->Nat}{b:List Int}(h:Dj u fs base p fs d (λi=> !b.contains (i:Int)) (λ_=>b))(n:DE u p r fs d b W)(z:Int)(c:Nat)(m:∀t,W.atKey (.int Af z) t=.lit (.int Af (c:Int))):∃a D,a<=1048576/\AP u c a D/\(Go.Maps.size D=0↔Jf fs b z=true):=by
 have f:=Go.Maps.has_true_of_atKey m;rw[n.has]at f;simp only[nO,my]at f;obtain⟨⟨v,w⟩,j⟩:=f;obtain⟨i,rfl⟩:∃i:Nat,z=(i:Int):=⟨z.toNat,oM⟩;have g:i<fs.length:=oM;have e:=(m (.agg [])).symm.trans (n.at_ i g (by simpa using j) (.agg []));obtain rfl:c=d i:=by
  injection e with e
  injection e with _ e
  omega
 obtain⟨a,D,s,k,l⟩:=h.set i g j;refine⟨a,D,s,k,?_⟩;rw[Up k,<-Um g];exact⟨λq y=>by rw[<-l];exact q y, λq y=>by rw[l];exact q y⟩
theorem Jj(a:0<=z)(b:z<1048576):Dv z:=by simp[Dv,Lit.wf,IntKind.min,IntKind.max,IntKind.signed,IntKind.bits];omega
theorem QG{rs:List Int}(m:fs.length<=1048576)(f:∀z,Go.Maps.has W (.int Af z)=(decide (0<=z/\z<(fs:Int))&& !a.contains z))(l:rs.Pairwise (· < ·))(h:∀z,z∈rs↔Dv z/\Go.Maps.has W (.int Af z)=true/\Jf fs a z=true):(rs=[]/\Hy fs a=M)\/∃(q:Nat) (r:List Int),rs=(q:Int)::r/\q< ↑fs/\a.contains (q:Int)=false/\Hy fs a=K q:=by
 have c:∀i:Nat,i< ↑fs->(C7 fs a i=true↔(i:Int)∈rs):= λi b=>by
  rw[h,f,Xd];have k:(0<=(i:Int)/\(i:Int)<(fs:Int)):=oM
  simp only[k,decide_true,Bool.true_and,nO,and_self];exact⟨λq=>⟨Jj oM oM,q⟩, λq=>q.2⟩
 cases rs with
 | nil=>
   refine .inl ⟨rfl,KG λj g=> ?_⟩;cases hr:C7 fs a j with
   |false=>rfl
   |true=>exact absurd ((c j g).1 hr) sP
 | cons z r=>
   have d:=(h z).1 (mV ..);rw[f]at d;simp only[nO,my]at d;obtain⟨i,rfl⟩:∃i:Nat,z=(i:Int):=⟨z.toNat,oM⟩;have b:i<fs.length:=oM;refine .inr ⟨i,r,rfl,b,by simpa using d.2.1.2,KH b ((c i b).2 (mV ..)) λj g=> ?_⟩;cases hr:C7 fs a j with
   |false=>rfl
   | true=>
     have:=(c j oM).1 hr;rcases lw.1 this with e|e
     . omega
     have:=(mj.1 l).1 _ e;omega
theorem Qh(D:DataW Unit)(z y:Int):Go.Maps.has (D.del (.int Af z)) (.int Af y)=(Go.Maps.has D (.int Af y)&& !decide (y=z)):=by
 by_cases h:y=z
 . subst h;rw[Go.Maps.has_del_same];simp
 rw[Go.Maps.has_del_other (λe=>h (by cases e;rfl))];simp[h]
theorem Fe(a:List Int)(q z:Int):(a++[q]).contains z=(a.contains z||decide (z=q)):=by rw[oR];simp
theorem DE.del{c b k q:Nat}{f:Nat->Nat}{d:List Int}(h:DE u c b k f d W)(p:q<k)(n:d.contains (q:Int)=false)(m:g.ownsMap Ap 2 Cs c b (W.del (.int Af (q:Int)))):DE g c b k f (d++[(q:Int)]) (W.del (.int Af (q:Int))):=by
 refine⟨m, λz=> ?_, λi l a s=> ?_,?_⟩
 . rw[Qh,h.has z,Fe,Bool.not_or,Bool.and_assoc]
 . rw[Fe]at a;simp only[Bool.or_eq_false_iff,oW]at a;rw[Go.Maps.atKey_del_other (λe=>a.2 (by injection e)),h.at_ i l a.1]
 have:=Go.Maps.size_del (k:=.int Af (q:Int)) (World.ownsMap.tidy h.own EY);have j:(0<=(q:Int)/\(q:Int)<(k:Int)):=oM
 rw[h.has,n]at this;simp only[j,and_self,decide_true,Bool.not_false,Bool.and_true,if_true]at this;have r:=h.size;rw[lG,lL];omega
theorem VX(fs:List MF)(a:List Int)(q:Int)(i:Nat)(z:Int):Et fs (a++[q]) i z=(Et fs a i z&& !decide (z=q)):=by
 unfold Et;cases fs[i]? with
 |none=>rfl
 |some f=>simp only[Fe,Bool.not_or,Bool.and_assoc]
structure Fl(w:Y)(S:Nat)(V:J)(xs:List Int):Prop where
 ie:AA w S #[V] 312
 own:Ab w (S+1) 2 1 V xs (Ad As xs)
theorem Fl.a7{w b:Y}{xs:List Int}(h:Fl w S V xs)(a:Ah w w b):Fl b S V xs:=⟨h.ie.a7 a,Aw h.own a lR⟩
theorem FI(S:Nat)(V:J)(xs:List Int)(w:Y)(h:Fl w S V xs):Ai Ap 252 #[.pointer S] w λe a=>e=Al xs/\a=w:=by obtain⟨b,c1,rfl⟩:=AF h.own;have c0:=h.ie.cell 0;simp only[lE,lC]at c0;clear h;go_enter func252,ntmps252;go_wp2;go_ret;exact⟨rfl,rfl⟩
theorem LU(S:Nat)(V i:J)(xs a:List Int)(w:Y)(h:Fl w S V xs)(c:Rd w 1 i a (Ad As a))(f:xs.length<=1048576)(g:a.length<=1048576):Ai Ap 256 #[.pointer S,i] w λe k=>AM e (xs=a)/\Ah w w k:=by have c0:=h.ie.cell 0;simp only[lE,lC]at c0;have H:=Av (d5 h (d5 c (d5 f g)));obtain⟨l,c1,rfl⟩:=AF h.own;obtain⟨n,c2,rfl⟩:=c.bW;clear h c f g;go_enter func256,ntmps256;go_wp2_with fail;refine(Mn _ _ xs a w H.2.2.1 H.2.2.2 (Rd.ij H.1.own) H.2.1).mono ?_;rintro e u ⟨⟨b,rfl,d⟩,m,rfl⟩;have j:=Av d;clear d;go_wp2;go_ret;exact⟨⟨b,rfl,j⟩,AB _ _ _⟩
def Lk(w:Y)(S:Nat)(V:J)(b:List Int)(a:Y):Prop:=∃V',Fl a S V' b/\DB (λj=>j=S\/V.ownBlock=K j) w a/\(V'.ownBlock=V.ownBlock\/∀g,V'.ownBlock=K g-> ↑w<=g)
theorem Fl.lt{xs:List Int}(h:Fl w S V xs):∀g,V.ownBlock=K g->S<g/\g<w.heap.size:= λg a=>by have:=h.own.lt g a;omega
theorem D3{P:Program}(base:Nat)(t ty e:Aj)(i:TypeInfo)(size:Nat)(b:P.underlying t=K (.slice e))(a:P.info? e=K i)(v:J)(n:Nat)(xs:List J)(f:Ab w base e size v n xs)(c:Nat):(Builtin.append_ #[t,t] ty #[v,Z M 0 c]).run P w=.ok v w:=by
 rcases f.2 with⟨rfl,rfl⟩|⟨g,cap,h,rfl,_,_,d,_⟩
 . simp[Builtin.append_,run_underlying b,sizeOf,typeInfo,a,Builtin.lenOf,Builtin.firstCells]
 simp[Builtin.append_,run_underlying b,sizeOf,typeInfo,a,Builtin.lenOf,Builtin.firstCells,d,storeCells]
theorem Lk.of{w b:Y}{xs:List Int}(h:Fl w S V xs)(m:Ab b (S+1) 2 1 V' (xs.length+ ↑a) (Ad As xs++Ad As a))(d:w.grownBy b V.ownBlock)(f:V'.ownBlock=V.ownBlock\/V'.ownBlock=K w):Lk w S V (xs++a) (b.setCell S V'):=by
 have i:=h.ie.grown d h.own dC;have l:(xs++a).length= ↑xs+a.length:=lG
 refine⟨V',⟨by have:=i.set 0 V';simpa using this,?_⟩,?_,?_⟩
 . rw[l,mH];exact lV m oS _
 . exact(DB.grown (R:= λj=>j=S\/V.ownBlock=K j) (DB.refl _ _) d (λk n e=>.inr e.symm)).setCell (.inl (.inl rfl)) _
 exact f.imp_right λe g c=>by rw[e]at c;cases c;exact Nat.le_refl _
theorem N3(S:Nat)(V C:J)(xs a:List Int)(w:Y)(h:Fl w S V xs)(d:Rd w 1 C a (Ad As a))(hx:xs.length<=1048576)(y:a.length<=1048576):Ai Ap 254 #[.pointer S,C] w λe W=>e=Al (.tuple #[])/\Lk w S V (xs++a) W:=by
 obtain⟨B,t,O,Q,R⟩:=mN Br;obtain⟨b,c1,rfl⟩:=AF h.own;have f:=Av h;have c0:=h.ie.cell 0;have f0:=h.ie.frozen 0;have G:S+1<=w.heap.size:=h.ie.lt;simp only[lE,lC]at c0;obtain⟨E,c2,rfl⟩:=d.bW;cases E with
 | none=>
   have A:a.length=0:=by
    rcases d.2 with⟨l,_⟩|⟨g,o,c,i,_⟩
    . exact l
    cases i
   have N:a=[]:=mL A;subst N;(have L:∀ty,(Builtin.append_ #[29,29] ty #[Z b xs c1,Z M 0 c2]).run Ap w=.ok (Z b xs c1) w:= λty=>D3 (P:=Ap) (S+1) 29 ty 2 B 1 underlying29 t _ _ _ h.own c2);have k:Ae (Lk w S (Z b xs c1) (xs++[]) (w.setCell S (Z b xs c1))):=Lk.of h (by simpa using h.own) ⟨rfl,rfl,rfl,Nat.le_refl _, λ_ _ _=>rfl⟩ (.inl rfl);clear h d y A;rw[mh];go_enter func254,ntmps254;go_wp2_with (at_builtin;refine Lib.wpList_append_run _ rfl _ _ _ _ rfl _ _ rfl rfl _ _ (L _) ?_);refine pO (v:=.tuple #[]) kR rfl ?_;exact⟨rfl,k⟩
 | some ad=>
   have D:Ae (∀j u,(Ad As a)[j]?=K u->w (ad.add j)=K u):= λj u x=>by
    rcases d.2 with⟨l,_⟩|⟨g,o,c,i,H⟩
    . have:a=[]:=mL l;subst this;simp at x
    simp only[lB,lH]at i;obtain⟨rfl,_⟩:=i;rw[CQ];exact H j u x
   clear h d;generalize z:a.length=m at y⊢;have r:=Av z;clear z;go_enter func254,ntmps254;go_wp2_with (at_builtin;refine wpList_append_own_at _ rfl _ _ 29 rfl (S+1) 2 B (iZ 0) 1 8 underlying29 t O Q R rfl dC _ xs (Ad As xs) rfl f.own ad m c2 (Ad As a) rfl (by rw[AE As 1 Ay,r]) D (De _) (by simp[maxLen];omega) oM G ?_;intro U X q p I s;have k:Ae (Lk w S (Z b xs c1) (xs++a) (X.setCell S U)):=Lk.of f (by rw[r];exact q) p s;have n:=f.ie.grown p f.own dC;have T:=n.cell 0;have k1:=n.frozen 0;simp only[lE,lC]at T;obtain⟨a5,c5,F⟩:=AF q;subst F;clear q p I s n);refine pO (v:=.tuple #[]) kR rfl ?_;exact⟨rfl,k⟩
theorem QS(c:J)(a:List Int)(w:Y)(h:Rd w 1 c a (Ad As a))(i:a.length<=1048576):Ai Ap 249 #[c] w λe j=>e=Al (.pointer w)/\(∃V,Fl j w V a)/\Ah w w j:=by
 have b:Ae (Fl (Ac w (Ak #[sN] 312)) w sN []/\Ah w w (Ac w (Ak #[sN] 312))):=⟨⟨AA.new _ _ _,mI _ _ _ _⟩,Aq _ _⟩
 have H:=Av (d5 h i);clear h i;go_enter func249,ntmps249;go_wp2_with fail;refine(N3 w sN c [] a _ b.1 (H.1.a7 b.2 lR) sP H.2).mono ?_;rintro e u ⟨rfl,V',g,f,_⟩;have d:Ae (Fl u w V' a/\Ah w w u):=⟨g,b.2.trans (f.below b.2.size (λk l e=>by
  rcases e with e|e
  . omega
  cases e))⟩
 clear g f b;go_wp2_with fail;go_ret;exact⟨rfl,⟨V',d.1⟩,d.2⟩
def Nx(n:Int):J:=if n=0 then .nilIface else .iface 153 n
def Da(e:Ending)(p:MP):Prop:=∃n,e=Al (Nx n)/\A6 p n
theorem Da.f1(h:¬AS p.aC):Da (Al (.iface 153 (iZ 1))) p:=⟨1,rfl,.inl ⟨rfl,h⟩⟩
theorem Da.f2(a:AS p.aC)(h:¬Bh p.dk):Da (Al (.iface 153 (iZ 2))) p:=⟨2,rfl,.inr (.inl ⟨rfl,a,h⟩)⟩
theorem Da.f3(a:AS p.aC/\Bh p.dk)(h:¬Bl p.aD):Da (Al (.iface 153 (iZ 3))) p:=⟨3,rfl,.inr (.inr (.inl ⟨rfl,a.1,a.2,h⟩))⟩
theorem Da.f4(a:AS p.aC/\Bh p.dk)(b:Bl p.aD)(h:¬CE p):Da (Al (.iface 153 (iZ 4))) p:=⟨4,rfl,.inr (.inr (.inr (.inl ⟨rfl,a.1,a.2,b,h⟩)))⟩
theorem Da.f5(a:AS p.aC/\Bh p.dk)(b:Bl p.aD)(c:CE p)(h:¬Bz p):Da (Al (.iface 153 (iZ 5))) p:=⟨5,rfl,.inr (.inr (.inr (.inr (.inl ⟨rfl,a.1,a.2,b,c,h⟩))))⟩
theorem Da.f0(a:AS p.aC/\Bh p.dk)(b:Bl p.aD)(c:CE p)(h:Bz p):Da (Al .nilIface) p:=⟨0,rfl,.inr (.inr (.inr (.inr (.inr ⟨rfl,a.1,a.2,b,c,h⟩))))⟩
theorem Gs(v:VP)(p:MP)(w:Y)(O:p.small)(hw:p.wf)(h:Dm w v p)(L:Jp w v.r p.aC)(N:MH w v.f p.aD):
 Ai Ap 53 #[Am #[v.r,v.k,v.f,v.t]] w λe W=>Da e p/\Ah w w W:=by
 have H:=Av (d5 O (d5 hw (d5 h (d5 L N))));clear O hw h L N;have q:Ae _:=Mz.of w v.r v.k v.f v.t 37;go_enter func53,ntmps53;go_wp2_with fail;refine(K3 v.r p.aC _ H.1.aC H.1.region (H.2.2.1.aC.a7 q.ej lR)).mono ?_;rintro e X ⟨⟨Q,rfl,u⟩,rfl⟩;cases Q
 . (have a:Ae (¬AS p.aC):= λe=>by simp[e]at u);clear u;go_wp2;go_ret;exact⟨.f1 a,q.ej⟩
 have D:=Av (u.1 rfl);clear u;go_wp2_with fail;refine(Lw v.k p.dk _ H.1.dk (λc V=>(TE (H.2.1.dk c V).2).1) (H.2.2.1.dk.a7 q.ej lR)).mono ?_;rintro e u2 ⟨⟨R,rfl,x⟩,E⟩;have s:=Av (q.a7 E);clear E;cases R
 . (have a:Ae (¬Bh p.dk):= λe=>by simp[e]at x);clear x;go_wp2;go_ret;exact⟨.f2 D a,s.ej⟩
 have g:=Av (d5 D.o (x.1 rfl));clear x;obtain⟨i,j,l,m⟩:=s.prog;go_wp2_with fail;refine(M0 v.f p.aD _ H.1.aD H.1.func (H.2.2.1.aD.a7 s.ej lR)).mono ?_;rintro e u3 ⟨⟨S,rfl,y⟩,F⟩;have b:=Av (s.a7 F);clear F i j l m;cases S
 . (have a:Ae (¬Bl p.aD):= λe=>by simp[e]at y);clear y;go_wp2;go_ret;exact⟨.f3 g a,b.ej⟩
 have n:=Av (y.1 rfl);clear y;obtain⟨i,j,l,m⟩:=b.prog;go_wp2_with fail;refine(MV v p _ H.1 H.2.1 g.1 n (H.2.2.1.a7 b.ej lR) (H.2.2.2.1.a7 b.ej lR)).mono ?_;rintro e u4 ⟨⟨T,rfl,z⟩,G⟩;have d:=Av (b.a7 G);clear G i j l m;cases T
 . (have a:Ae (¬CE p):= λe=>by simp[e]at z);clear z;go_wp2;go_ret;exact⟨.f4 g n a,d.ej⟩
 have B:=Av (z.1 rfl);clear z;obtain⟨i,j,l,m⟩:=d.prog;go_wp2_with fail;refine(MU v p _ H.1 (H.2.2.1.a7 d.ej lR) (H.2.2.2.2.a7 d.ej lR)).mono ?_;rintro e u5 ⟨⟨U,rfl,A⟩,I⟩;have C:=Av (Ar d.ej lR I);clear I i j l m;cases U
 . (have a:Ae (¬Bz p):= λe=>by simp[e]at A);clear A;go_wp2;go_ret;exact⟨.f5 g n B a,C⟩
 have P:Ae (Bz p):=A.1 rfl;clear A;go_wp2;go_ret;exact⟨.f0 g n B P,C⟩
def RA(y:ML×J×J):Prop:=(∃a c,y.2.1=Z a y.1.back c)/\∃a c,y.2.2=Z a y.1.a8 c
theorem Qr{d:List (ML×J×J)}(h:∀y∈d,RA y):∀u∈Ad BS d,u.oneCell'=true:=by
 intro u b;obtain⟨y,g,b⟩:=ni.1 b;obtain⟨⟨a,c,e⟩,a',c',f⟩:=h y g;simp only[BS,lw,mK,nJ]at b;rcases b with rfl|rfl|rfl
 . rfl
 . rw[e];rfl
 rw[f];rfl
theorem TP(ty:Aj)(u:Y)(l:Nat)(V:J)(b:List (ML×J×J))(h:Rd u 3 V b (Ad BS b))(w:∀y∈b,RA y)(m:l<= ↑u)(F:b.length<=1048576):∃v' d,(Builtin.append_ #[82,82] ty #[Z u 0 0,V]).run Ap (Ac u (Ak #[] 92))=.ok v' d/\d.ownsRow l 92 3 v' b (Ad BS b)/\Ah u u d:=by
 obtain⟨p,n,B,C,D⟩:=mN OP;have i:Ab (Ac u (Ak #[] 92)) u 92 3 (Z u 0 0) 0 []:=⟨rfl,.inr ⟨u,0,#[],rfl,Nat.le_refl _,oz _ _,Nat.le_refl _,nZ _,rfl,sP⟩⟩;obtain⟨a,c,rfl⟩:=Rd.bW h;cases a with
 | none=>
   have A:b.length=0:=by
    rcases h.2 with⟨k,_⟩|⟨g,o,c,e,_⟩
    . exact k
    cases e
   have q:b=[]:=mL A;subst q;exact⟨_,_,D3 (P:=Ap) u 82 ty 92 p 3 underlying82 n _ _ _ i c,Bb i m,Aq _ _⟩
 | some ad=>
   have hN:∀j v,(Ad BS b)[j]?=K v->(Ac u (Ak #[] 92)) (ad.add j)=K v:= λj v f=>by
    rcases h.2 with⟨k,_⟩|⟨g,o,c,e,x⟩
    . have:b=[]:=mL k;subst this;simp at f
    simp only[lB,lH]at e;obtain⟨rfl,_⟩:=e;have:=x j v f;rw[CQ,(Aq u (Ak #[] 92)).cell (g8 this)];exact this
   obtain⟨v',d,z,r,s,E⟩:=run_append_own (P:=Ap) (Ac u (Ak #[] 92)) u 82 ty 92 p (Am #[Ag Af 0,Z M 0 0,Z M 0 0]) 3 56 underlying82 n B C D rfl dC _ 0 [] i ad b c (Ad BS b) (by rw[AE BS 3 Cp]) hN (Qr w) oX oM (Aq _ _).size;(have t:d.ownsRow u 92 3 v' b (Ad BS b):=by simpa using r);exact⟨_,d,z,Bb t m,(Aq u (Ak #[] 92)).grown s (Aq _ _).size (λj f=>(i.lt j f).1)⟩
theorem Po{e:Array Oper}{rest:List Oper}{o:Oper}{a:Act}{Q:Exit->Act->Y->Prop}(m:o.guard=M)(s x:Operand)(p:o.op=.call {callee:=.builtin .append,args:=#[s,x],argTypes:=#[82,82]})(u:Y)(d:Nat)(V:J)(b:List (ML×J×J))(r:a.eval s=Z u 0 0)(t:a.eval x=V)(h:Rd u 3 V b (Ad BS b))(l:∀y∈b,RA y)(i:d<= ↑u)(n:b.length<=1048576)(j:∀v' c,c.ownsRow d 92 3 v' b (Ad BS b)->Ah u u c->wpList Ap e Q rest (a.put o.dst v') c):wpList Ap e Q (o::rest) a (Ac u (Ak #[] 92)):=wpList_plain m λ_ k=>by obtain⟨v',c,q,f,g⟩:=TP o.type u d V b h l i n;exact Lib.wp_append_run _ s x 82 82 p _ _ r t v' c q (k _ _ (j v' c f g))
structure IX(w u:Y)(V:J)(n:Nat)(ys zs:List (ML×J×J)):Prop where
 own:Ab u w 92 3 V n (Ad BS zs)
 len: ↑zs=n
 sub:∀z∈zs,z∈ys
 ej:Ah w w u
theorem IX.at_{g n c:Nat}{q f:List (ML×J×J)}(h:IX w u (Z (K ⟨g,0,M⟩) n c) n q f)(A:∀y∈q,RA y){k:Nat}(B:k<n):∃z a b d e,f[k]?=K z/\z∈q/\z.2.1=Z a z.1.back.length b/\z.2.2=Z d z.1.a8.length e/\u ⟨g,k*3,M⟩=K (Ag Af z.1.head)/\u ⟨g,k*3+1,M⟩=K (Z a z.1.back.length b)/\u ⟨g,k*3+2,M⟩=K (Z d z.1.a8.length e):=by
 have t:k<f.length:=by rw[h.len];exact B
 have i:f[k]?=K f[k]:=an t;have v:=h.sub _ (nG t);obtain⟨⟨a,b,r⟩,d,e,s⟩:=A _ v;rcases(Rd.ij h.own).2 with⟨j,_⟩|⟨C,D,c',j,l⟩
 . omega
 simp only[lB,lH,nF,mB,nU]at j;obtain⟨⟨rfl,rfl⟩,rfl⟩:=j;have x:=Rd.elem Cp l k _ i 0 _ rfl;have m:=Rd.elem Cp l k _ i 1 _ rfl;have p:=Rd.elem Cp l k _ i 2 _ rfl;rw[r]at m;rw[s]at p;simp only[mQ,lJ]at x m p;exact⟨_,a,b,d,e,i,v,r,s,x,m,p⟩
theorem IX.a7{w u b:Y}{n:Nat}{c d:List (ML×J×J)}(h:IX w u V n c d)(a:Ah u u b):IX w b V n c d:=⟨Aw h.own a lR,h.len,h.sub,Ar h.ej lR a⟩
theorem W8{a:List (ML×J×J)}{k:Nat}{z:ML×J×J}:(((Ad BS a).set (k*3) z.1.head).set (k*3+1) z.2.1).set (k*3+2) z.2.2=Ad BS (a.set k z):=by
 induction a generalizing k with
 |nil=>rfl
 | cons y r b=>
   cases k with
   |zero=>rfl
   | succ k=>rw[lX,mF,mF,<-b,show(k+1)*3=k*3+1+1+1 from oM];rfl
theorem IX.kM{g n c k:Nat}{b j:List (ML×J×J)}(h:IX w U (Z g n c) n b j){z:ML×J×J}(q:z∈b){f i:J}(l:z.2.1=f)(m:z.2.2=i):IX w (Aa (Aa (Aa U ⟨g,k*3,M⟩ z.1.head) ⟨g,k*3+1,M⟩ f) ⟨g,k*3+2,M⟩ i) (Z g n c) n b (j.set k z):=by
 subst l m;have a:=(AD h.own).1;have r:=(nC h.own (k*3) z.1.head).1;have s:=(nC r (k*3+1) z.2.1).1;have d:=(nC s (k*3+2) z.2.2).1;rw[W8]at d;refine⟨d,by rw[mZ];exact h.len, λy p=> ?_,((h.ej.setCell a _).setCell a _).setCell a _⟩;rcases oU p with e|e
 . exact h.sub y e
 subst e;exact q
theorem IX.jL{g n c q r:Nat}{B d:List (ML×J×J)}(h:IX w U (Z g n c) n B d)(s:∀y∈B,RA y)(C:q<n)(D:r<n){a b:ML×J×J}{e f k l:Option Addr}{j m p:Nat}(E:d[q]?=K a)(F:d[r]?=K b)(f1:a.2.1=Z e a.1.back i)(f2:a.2.2=Z k a.1.a8 m)(f3:b.2.1=Z f b.1.back j)(f4:b.2.2=Z l b.1.a8 p):U ⟨g,q*3,M⟩=K ↑a.1.head/\U ⟨g,q*3+1,M⟩=K (Z e a.1.back i)/\U ⟨g,q*3+2,M⟩=K (Z k a.1.a8 m)/\U ⟨g,r*3,M⟩=K ↑b.1.head/\U ⟨g,r*3+1,M⟩=K (Z f b.1.back j)/\U ⟨g,r*3+2,M⟩=K (Z l b.1.a8 p):=by
 obtain⟨P,_,_,_,_,t,_,u,v,G,H,I⟩:=h.at_ s C;obtain⟨Q,_,_,_,_,x,_,z,A,L,N,O⟩:=h.at_ s D;rw[E]at t;rw[F]at x;cases t
 cases x
 rw[f1]at u;rw[f2]at v;rw[f3]at z;rw[f4]at A;cases u
 cases v
 cases z
 cases A
 exact⟨G,H,I,L,N,O⟩
def Zw(w:Y)(S:Nat)(V:J)(sh ts:List Int)(b:J)(c:Int)(a:Y):Prop:=
 (sh.length< ↑ts/\c=1/\Ah w w a)\/(ts.length<= ↑sh/\CU (sh.drop (sh.length-↑ts)) ts=false/\c=2/\Ah w w a)\/
 (ts.length<= ↑sh/\CU (sh.drop (sh.length-↑ts)) ts=true/\c=0/\(∃V',Fl a S V' (sh.take (sh.length-↑ts))/\V'.ownBlock=V.ownBlock)/\Ab a w 2 1 b ts (Ad As (sh.drop (sh.length-↑ts)))/\DB (λj=>j=S) w a)
theorem Fl.short{a:Option Addr}{n c m:Nat}{xs:List Int}(h:Fl w S (Z a n c) xs)(j:m<= ↑xs)(u:n= ↑xs):Ab w (S+1) 2 1 (Z a m c) m (Ad As (xs.take m)):=by
 subst u;have k:=h.own;have d:m*1<= ↑xs*1:=oM
 refine⟨by rw[AE As 1 Ay,mY,Nat.min_eq_left j],?_⟩;rcases k.2 with⟨b,x⟩|⟨g,cap,i,b,q,t,y,r,s,f⟩
 . have v:m=0:=oM;subst v;simp only[lB]at b;obtain⟨rfl,_,rfl⟩:=b;exact .inl ⟨rfl,rfl⟩
 simp only[lB,mB]at b;obtain⟨rfl,rfl⟩:=b;refine .inr ⟨g,c,i,rfl,q,t,oM,r,s,?_⟩;have e:Ad As (xs.take m)=(Ad As xs).take (m*1):=by
  rw[<-f,List.take_take,Nat.min_eq_left d];have l:Ad As xs=Ad As (xs.take m)++Ad As (xs.drop m):=by rw[<-mH,n9]
  have p:i.toList.take (m*1)=(Ad As xs).take (m*1):=by rw[<-f,List.take_take,Nat.min_eq_left d]
  rw[p,l];exact(List.take_left' (by rw[AE As 1 Ay,mY,Nat.min_eq_left j])).symm
 rw[e,<-f,List.take_take,Nat.min_eq_left d]
theorem Fl.tail{S g n c:Nat}{xs:List Int}(h:Fl w S (sG g n c) xs)(lo:Nat)(c':Nat)(b:lo<= ↑xs):Rd w 1 (sO g lo (↑xs-lo) c') (↑xs-lo) (Ad As (xs.drop lo)):=by
 refine⟨by rw[AE As 1 Ay,nI],.inr ⟨g,lo,c',rfl, λj u a=> ?_⟩⟩;rcases(Rd.ij h.own).2 with⟨e,_,_,k⟩|⟨l,o,c2,e,i⟩
 . have:xs=[]:=mL e;subst this;simp at a
 simp only[lB,lH,nF]at e;obtain⟨⟨rfl,rfl,_⟩,_⟩:=e;have d:Ad As xs=Ad As (xs.take lo)++Ad As (xs.drop lo):=by rw[<-mH,n9]
 have f:(Ad As xs)[lo+j]?=K u:=by rw[d,lY (by rw[AE As 1 Ay,mY,Nat.min_eq_left b];omega),AE As 1 Ay,mY,Nat.min_eq_left b];rw[show lo+j-lo*1=j from oM];exact a
 have:=i (lo+j) u f;rw[mQ]at this;exact this
theorem Fl.shrink{a:Option Addr}{n c m:Nat}{xs:List Int}(h:Fl w S (Z a n c) xs)(b:m<= ↑xs)(d:n= ↑xs):Fl (w.setCell S (Z a m c)) S (Z a m c) (xs.take m):=by refine⟨by have:=h.ie.set 0 (Z a m c);simpa using this,?_⟩;rw[mY,Nat.min_eq_left b];exact lV (h.short b d) oS _
theorem VT(S:Nat)(V O:J)(sh ts:List Int)(w:Y)(h:Fl w S V sh)(hw:Rd w 1 O ts (Ad As ts))(A:sh.length<=1048576)(D:ts.length<=1048576):Ai Ap 257 #[.pointer S,O] w λe w'=>∃F c,e=Al (Ao #[F,iZ c])/\Zw w S V sh ts F c w':=by
 obtain⟨a2,c2,rfl⟩:=hw.bW;have H:=Av (d5 h (d5 hw (d5 A D)));clear h hw;by_cases v:sh.length< ↑ts
 . have Q:Ae (sh.length< ↑ts):=v
   have aE:(sh:Int)-(ts:Int)<0:=oM;clear v;go_enter func257,ntmps257;go_wp2_with fail;refine(FI S V sh w H.1).mono ?_;rintro e u ⟨rfl,rfl⟩;go_wp2_with fail;go_ret2;exact⟨_,1,rfl,.inl ⟨Q,rfl,lu _ _⟩⟩
 obtain⟨lo,z⟩:∃lo, ↑sh=lo+ts.length:=⟨sh.length-↑ts,oM⟩
 have i:=Av z;have am:¬(lo:Int)<0:=oM;have p:Ae (↑sh-↑ts=lo):=by show ↑sh-↑ts=lo;omega
 rcases Bo H.1.own with⟨e,G⟩|⟨g,c,e⟩
 . subst e;have ao:sh=[]:=mL G;subst ao;have aq:ts=[]:=mL (by simp at v;omega);subst aq;clear z v am G i p A D;rw[mh];have c0:=H.1.ie.cell 0;have f0:=H.1.ie.frozen 0;simp only[lE,lC]at c0;go_enter func257,ntmps257;go_wp2_with fail;refine(FI S _ [] w H.1).mono ?_;rintro e u ⟨rfl,rfl⟩;rw[mh];go_wp2_with fail;refine(Ky _ 0 [] u oM (λu hu=>by cases hu) ⟨rfl,.inl ⟨rfl,_,_,rfl⟩⟩).mono ?_;rintro e N ⟨y,c3,rfl,x,r⟩;have d:=Av (d5 x r);clear x r c0 f0;go_wp2_with fail;refine(Lz _ _ [] [] N sP sP ⟨rfl,.inl ⟨rfl,_,_,rfl⟩⟩ ⟨rfl,.inl ⟨rfl,_,_,rfl⟩⟩).mono ?_;rintro e n ⟨⟨C,rfl,t⟩,l⟩;have ah:C=true:=t.2 rfl;subst ah;have b:=Av (d5 (Aw d.1 l lR) (Ar d.2 lR l));clear t l d;have f:=(H.1.a7 b.2).ie;have c0:=f.cell 0;have f0:=f.frozen 0;simp only[lE,lC]at c0;have k:Ae (Fl (n.setCell S (Z M 0 0)) S (Z M 0 0) []/\Ab (n.setCell S (Z M 0 0)) u 2 1 (Z y 0 c3) 0 []/\DB (λj=>j=S) u (n.setCell S (Z M 0 0))):=⟨(H.1.a7 b.2).shrink (m:=0) sP rfl,lV b.1 H.1.ie.lt _,(DB.of (R:= λj=>j=S) b.2).setCell (.inl rfl) _⟩
   clear f;go_wp2_with fail;go_ret2;exact⟨_,0,rfl,.inr (.inr ⟨Nat.le_refl _,rfl,rfl,⟨sN,k.1,rfl⟩,k.2.1,k.2.2⟩)⟩
 subst e;have I: ↑sh<=c:=by
  rcases H.1.own.2 with⟨e,_⟩|⟨g',cap,au,e,_,_,aj,_⟩
  . cases e
  simp only[lB,lH,nF]at e;obtain⟨_,_,rfl⟩:=e;exact aj
 have c0:=H.1.ie.cell 0;have f0:=H.1.ie.frozen 0;simp only[lE,lC]at c0;rw[z]at c0 I A;have E:Ae (∀c',Rd w 1 (sO g lo ts c') ts (Ad As (sh.drop lo))):= λc'=>by
  have:=H.1.tail lo c' oM;rw[show ↑sh-lo= ↑ts from oM]at this
  exact this
 clear z v;generalize L:ts.length=m at c0 I A D E⊢;have q:=Av L;clear L;have aw:(lo:Int)<=(c:Int):=oM;have aA:(lo:Int)+(m:Int)<=(c:Int):=oM;go_enter func257,ntmps257;go_wp2_with fail;refine(FI S _ sh w H.1).mono ?_;rintro e u ⟨rfl,rfl⟩;rw[i,q];have B:Ae ((sh.drop lo).length=m):=by show(sh.drop lo).length=m;rw[nI,i.o,q];omega
 go_upto_region 4 with fail
 go_cut [7] (λs P=>∃a c',s=Z a m c'/\Ae (Ab P u 2 1 (Z a m c') m (Ad As (sh.drop lo))/\Ah u u P))
 case first=>
  go_wp2_with fail;all_goals
   refine(Ky _ m (Ad As (sh.drop lo)) u oM (De _) (by
    first
     |exact E.o _
     |exact⟨by rw[AE As 1 Ay,B],.inl ⟨oM,_,_,by rw[show m=0 from oM]⟩⟩)).mono ?_
   rintro e N ⟨y,c3,rfl,x,r⟩;have d:=Av (d5 x r);clear x r;go_wp2_with fail;go_meet;exact⟨_,_,rfl,d⟩
 case rest=>
  obtain⟨y,c3,rfl,d⟩:=hcut;clear c0 f0;obtain⟨X,ae⟩:∃W,W=wc:=⟨_,rfl⟩;subst ae;go_wp2_with fail;refine(Lz _ _ (sh.drop lo) ts X (by rw[B];omega) H.2.2.2 (by rw[B];exact Rd.ij d.1) (by have:=H.2.1.a7 d.2 lR;rw[q]at this⊢;exact this)).mono ?_;rintro e n ⟨⟨C,rfl,t⟩,l⟩;have b:=Av (d5 t (d5 (Aw d.1 l lR) (Ar d.2 lR l)));clear t l d;cases C
  . have T:Ae (CU (sh.drop lo) ts=false):=by
     cases hf:CU (sh.drop lo) ts with
     |false=>rfl
     |true=>have:=b.1.2 hf;cases this
    go_wp2_with fail;go_ret2;exact⟨_,2,rfl,.inr (.inl ⟨by have:=i.o;omega,by rw[p];exact T,rfl,b.2.2⟩)⟩
  . have U:Ae (CU (sh.drop lo) ts=true):=b.1.1 rfl;have f:=(H.1.a7 b.2.2).ie;have c0:=f.cell 0;have f0:=f.frozen 0;simp only[lE,lC]at c0;rw[i,q]at c0;have k:Ae (Fl (n.setCell S (Z g lo c)) S (Z g lo c) (sh.take lo)/\Ab (n.setCell S (Z g lo c)) u 2 1 (Z y m c3) m (Ad As (sh.drop lo))/\DB (λj=>j=S) u (n.setCell S (Z g lo c))):=⟨(H.1.a7 b.2.2).shrink (by have:=i.o;omega) rfl,lV b.2.1 H.1.ie.lt _,(DB.of (R:= λj=>j=S) b.2.2).setCell (.inl rfl) _⟩
    clear f;go_wp2_with fail;go_ret2;refine⟨_,0,rfl,.inr (.inr ⟨by have:=i.o;omega,by rw[p];exact U,rfl,⟨sG g lo c,?_,rfl⟩,?_,k.2.2⟩)⟩
    . rw[p];exact k.1
    rw[p,q];exact k.2.1
theorem Md{k n:Nat}{xs:List J}(h:Ab w base e k s n xs):∃a c,s=Z a n c/\n<=c:=by
 rcases h.2 with⟨rfl,rfl⟩|⟨g,cap,d,rfl,_,_,b,_⟩
 . exact⟨_,_,rfl,Nat.le_refl _⟩
 exact⟨_,_,rfl,b⟩
theorem Me{k n:Nat}{xs:List J}(h:Ab w base e k s n xs):Hh s:=by
 rcases h.2 with⟨rfl,rfl⟩|⟨g,cap,a,rfl,_⟩
 . exact .inl rfl
 exact .inr ⟨_,_,_,rfl⟩
theorem Gm.rdc{rs:List (List Int)}(h:Gm w base s rs):Jp w s rs:=by obtain⟨xs,c,d,a⟩:=h;exact⟨xs,c,Rd.ij d, λx b=>⟨Rd.ij (a x b),Md (a x b)⟩⟩
theorem DY.rdp(h:DY w base s fs):MH w s fs:=by obtain⟨xs,c,d,a⟩:=h;exact⟨xs,c,Rd.ij d, λx b=>⟨(a x b).rd,Me (a x b).1,Me (a x b).2.1⟩⟩
theorem AP.iH{w c:Y}{b a:Nat}{row:Option Nat}(h:AP w b a D)(d:w.grownBy c row)(e:K b≠row):AP c b a D:=World.ownsMap.kept h d e
theorem GZ{base k n b d:Nat}{xs:List J}(h:Ab w base e k v n xs)(i:w.ownsMap Ap 2 R b d D):K b≠v.ownBlock:=by
 obtain⟨m,j,f,_⟩:=i;intro a;rcases h.2 with⟨rfl,_⟩|⟨g,cap,l,rfl,_,c,_⟩
 . cases a
 simp only[Value.ownBlock,lH]at a;subst a;rw[f]at c;cases c
theorem DE.to{u d:Y}{b a k:Nat}{c:Nat->Nat}{e:List Int}(h:DE u b a k c e W)(f:d.ownsMap Ap 2 Cs b a W):DE d b a k c e W:=⟨f,h.has,h.at_,h.size⟩
structure OX(w u:Y)(fs:List MF)(mb cnt:Nat)(Bk:Nat->Nat)(zm:List Int)(W:DataW Unit)(live:Nat->Bool)(dn:Nat->List Int)(zo:List Int)(V:J):Prop where
 map:DE u mb cnt fs Bk zm W
 iw:Dj u fs w mb fs Bk live dn
 o:Ab u w 2 1 V zo (Ad As zo)
 ej:Ah w w u
 jC: ↑w<=mb
def OW(w u:Y)(fs:List MF)(d c:Nat)(b:Nat->Nat)(a:List Int)(W:DataW Unit)(V:J):Prop:=OX w u fs d c b a W (λi=> !a.contains (i:Int)) (λ_=>a) a V
theorem OX.a7{f c:Nat}{b:Nat->Nat}{j k:List Int}{e:Nat->Bool}{d:Nat->List Int}(h:OX w u fs f c b j W e d k V)(a:Ah u u g):OX w g fs f c b j W e d k V:=⟨h.map.to (h.map.own.kept (D7 a) sP),h.iw.kept (λi m l D q=>q.a7 a),Aw h.o a lR,Ar h.ej lR a,h.jC⟩
theorem OX.ir{w u c:Y}{k e:Nat}{d:Nat->Nat}{l:List Int}{g:Nat->Bool}{f:Nat->List Int}{q:Int}(h:OX w u fs k e d l W g f a V)(b:u.grownBy c V.ownBlock)(n:Ab c w 2 1 V' (a.length+1) (Ad As a++[iZ q])):OX w c fs k e d l W g f (a++[q]) V':=⟨h.map.to (h.map.own.kept b (GZ h.o h.map.own)),h.iw.kept (λi r p D q=>q.iH b (GZ h.o q)),by rw[lG,lL,mH];exact n,h.ej.grown b h.ej.size (λj m=>(h.o.lt j m).1),h.jC⟩
theorem OX.del{w u f:Y}{b c q:Nat}{g:Nat->Nat}(h:OX w u fs b c g a W (λi=> !a.contains (i:Int)) (λ_=>a) (a++[(q:Int)]) V)(v:q< ↑fs)(x:a.contains (q:Int)=false)(t:f.ownsMap Ap 2 Cs b c (W.del (.int Af (q:Int))))(d:u.grownBy f (K b)):OX w f fs b c g (a++[(q:Int)]) (W.del (.int Af (q:Int))) (λi=> !(a++[(q:Int)]).contains (i:Int)) (λ_=>a) (a++[(q:Int)]) V:=by refine⟨h.map.del v x t,⟨λi k l=> ?_,h.iw.inj,h.iw.ne⟩,h.o.kept d (Or.inr (GZ h.o h.map.own).symm),h.ej.grown d h.ej.size (λj s=>by cases s;exact h.jC),h.jC⟩;rw[Fe,Bool.not_or,nO]at l;obtain⟨m,D,n,p,r⟩:=h.iw.set i k l.1;exact⟨m,D,n,p.iH d (λe=>(h.iw.ne i k).2 (lP e)),r⟩
theorem Hu{b r n g c f:Nat}{D d:DataW Unit}(h:w.ranges Ap 2 R b r n D left g)(j:AP w c f d):K c≠K r:=by
 obtain⟨m,k,s,q,c0,_,_,_,_,a,_⟩:=h;obtain⟨p,l,i,_⟩:=j;intro e;cases e
 rw[i]at a;cases a
def KT(a:List Int)(q:Int)(left:Lit->Bool)(i:Nat):List Int:=if left (.int Af (i:Int))=true then a else a++[q]
theorem OX.step{w u d:Y}{a b n r p:Nat}{e:Nat->Nat}{l m:List Int}{k:Nat->Bool}{f:Nat->List Int}{left x:Lit->Bool}{c':Nat}(h:OX w u fs a b e l W k f m V)(g:u.ranges Ap 2 Cs a r n W left p)(v:d.ranges Ap 2 Cs a r b W x c')(c:u.grownBy d (K r))(s: ↑w<=r):OX w d fs a b e l W k f m V:=⟨h.map.to v.owns,h.iw.kept (λi z y D q=>q.iH c (Hu g q)),h.o.kept c (Or.inr (Go.row_ne_iter h.o g).symm),h.ej.grown c h.ej.size (λj t=>by cases t;exact s),h.jC⟩
theorem OX.start{e c:Nat}{b:Nat->Nat}{q:Int}(h:OX w u fs e c b (a++[q]) W (λi=> !(a++[q]).contains (i:Int)) (λ_=>a) (a++[q]) V):OX w u fs e c b (a++[q]) W (λi=> !(a++[q]).contains (i:Int)) (KT a q (Go.Maps.has W)) (a++[q]) V:=by
 refine⟨h.map,⟨λi g d=> ?_,h.iw.inj,h.iw.ne⟩,h.o,h.ej,h.jC⟩;have:Go.Maps.has W (.int Af (i:Int))=true:=by
  rw[h.map.has,d];have f:(0<=(i:Int)/\(i:Int)<(fs:Int)):=oM
  simp only[f,and_self,decide_true,Bool.and_true]
 unfold KT;rw[lZ this];exact h.iw.set i g d
theorem OX.done{d c:Nat}{b:Nat->Nat}{q:Int}(h:OX w u fs d c b (a++[q]) W (λi=> !(a++[q]).contains (i:Int)) (KT a q left) (a++[q]) V)(f:∀j,left j=false):OW w u fs d c b (a++[q]) W V:=by refine⟨h.map,⟨λi e g=> ?_,h.iw.inj,h.iw.ne⟩,h.o,h.ej,h.jC⟩;have:=h.iw.set i e g;unfold KT at this;rw[f]at this;exact this
theorem OX.meets{n l c:Nat}{b:Nat->Nat}{q x:Int}(h:OX w u fs n l b (a++[q]) W (λi=> !(a++[q]).contains (i:Int)) (KT a q left) (a++[q]) V)(m:left (.int Af x)=true)(k:∀p,W.atKey (.int Af x) p=.lit (.int Af (c:Int))):∃i:Nat,x=(i:Int)/\i< ↑fs/\c=b i/\∃g D,g<=1048576/\AP u c g D/\∀z,Go.Maps.has D (.int Af z)=Et fs a i z:=by
 have d:=Go.Maps.has_true_of_atKey k;rw[h.map.has]at d;simp only[nO,my]at d;obtain⟨⟨r,s⟩,j⟩:=d;obtain⟨i,rfl⟩:∃i:Nat,x=(i:Int):=⟨x.toNat,oM⟩;have f:i<fs.length:=oM;have e:=(k (.agg [])).symm.trans (h.map.at_ i f (by simpa using j) (.agg []));obtain rfl:c=b i:=by
  injection e with e
  injection e with _ e
  omega
 have:=h.iw.set i f j;unfold KT at this;rw[lZ m]at this;exact⟨i,rfl,f,rfl,this⟩
theorem OX.told{w u k:Y}{m l i c:Nat}{b:Nat->Nat}{q:Int}(h:OX w u fs m l b (a++[q]) W (λi=> !(a++[q]).contains (i:Int)) (KT a q left) (a++[q]) V)(g:i< ↑fs)(y:c<=1048576)(x:∀z,Go.Maps.has D (.int Af z)=Et fs a i z)(B:AP u (b i) c D)(A:AP k (b i) c (D.del (.int Af q)))(d:u.grownBy k (K (b i))):OX w k fs m l b (a++[q]) W (λi=> !(a++[q]).contains (i:Int)) (KT a q (λz=>left z&& !z.sameKey (.int Af (i:Int)))) (a++[q]) V:=by
 refine⟨h.map.to (h.map.own.kept d (λe=>(h.iw.ne i g).2 (lP e).symm)),⟨λj f C=> ?_,h.iw.inj,h.iw.ne⟩,h.o.kept d (Or.inr (GZ h.o B).symm),h.ej.grown d h.ej.size (λj f=>by cases f;exact(h.iw.ne i g).1),h.jC⟩;by_cases e:j=i
 . subst e;refine⟨c,_,y,A, λz=> ?_⟩;unfold KT;rw[lS (by simp[DN]),Qh,x,VX]
 obtain⟨p,n,s,t,v⟩:=h.iw.set j f C;refine⟨p,n,s,t.iH d (λr=>e (h.iw.inj j i f g (lP r))), λz=> ?_⟩;rw[v];have:¬(j:Int)=(i:Int):=oM;unfold KT;simp[DN,this]
theorem M1(v:VP)(p:MP)(w:Y)(hs:p.small)(hw:p.wf)(h:Dm w v p)(bq:Jp w v.r p.aC)(bt:MH w v.f p.aD):
 Ai Ap 54 #[.agg #[v.r,v.k,v.f,v.t]] w λe w'=>∃V b,e=Al V/\Ab w' w.heap.size 2 1 V b.length (b.flatMap As)/\SU p b/\Ah w.heap.size w w':=by
 obtain⟨k0,hk,cY,cZ,d6⟩:=mN Br;have H:=Av (d5 hs (d5 hw (d5 h (d5 bq bt))));clear hs hw h bq bt;have dg:= @run_makeMap Ap;have E:Ae (En (Ac w (Ak #[v.r,v.k,v.f,v.t] 37)) w v.r v.k v.f v.t/\Ah w w (Ac w (Ak #[v.r,v.k,v.f,v.t] 37))):=⟨En.new w _ _ _ _ _,Aq _ _⟩
 go_enter func54,ntmps54;obtain⟨q0,q1,q2,q3⟩:=E.o.1;go_wp2_with fail;refine(Gs v p _ H.o.1 H.o.2.1 (H.o.2.2.1.a7 E.o.2 lR) (H.o.2.2.2.1.a7 E.o.2 lR) (H.o.2.2.2.2.a7 E.o.2 lR)).mono ?_;rintro e A ⟨⟨nf,rfl,au⟩,b1⟩;have F:=Av (d5 (E.o.1.a7 b1) (Ar E.o.2 lR b1));clear b1 E q0 q1 q2 q3;by_cases q0:nf=0
 . subst q0;have HF:=Av au;clear au;rw[show Nx 0=.nilIface from rfl];obtain⟨ys,bV,aQ,br⟩:=H.o.2.2.1.aD;obtain⟨vr,vk,vf,vt⟩:=v;obtain⟨af,cf,ef⟩:∃a c,vf=Z a p.aD c:=aQ.bW;subst ef;have cR:=(Hp HF.o).1.2.1;have bF:=(Hp HF.o).1.1;have Q:=Av (d5 bV (d5 aQ br));clear bV aQ br;generalize bp:p.aD.length=n at cR bF Q F;have G:=Av bp;clear bp;obtain⟨gf,of,rfl,ah⟩:∃gf of,af=K ⟨gf,of,M⟩/\Ae (∀j u,(Ad BR ys)[j]?=K u->w.cell? ⟨gf,of+j,M⟩=K u):=by
    rcases Q.o.2.1.2 with⟨e0,_⟩|⟨gf,of,c',e1,cw⟩
    . exact absurd e0 bF
    simp only[lB,mB]at e1;exact⟨gf,of,e1.1,cw⟩
   obtain⟨p0,p1,p2,p3⟩:=F.o.1.alloc (.map #[] 0);obtain⟨r0,r1,r2,r3⟩:=F.o.1;have am:Ae (DE (Ac A (.map #[] 0)) A 0 0 (λ_=>0) [] (.map [])/\Ah w w (Ac A (.map #[] 0))/\(w:Nat)<= ↑A):=⟨DE.start (World.ownsMap_made _ _ _ _),Ar F.o.2 lR (Aq _ _),F.o.2.size⟩
   go_wp2;clear p0 p1 p2 p3 r0 r1 r2 r3;have aA:=Av am.o.2.2;have aH:Ae (∃d W,DE (Ac A (.map #[] 0)) A 0 0 d [] W/\Dj (Ac A (.map #[] 0)) p.aD w A 0 d (λ_=>true) (λ_=>[])/\Ah w w (Ac A (.map #[] 0))):=⟨_,_,am.o.1,Dj.start,am.o.2.1⟩
   clear am F;generalize A.heap.size=g at aH aA⊢;go_loopw [18] (λi wr=>∃k:Nat,k<=n/\i=iZ k/\Ae (∃d W,DE wr g k k d [] W/\Dj wr p.aD w g k d (λ_=>true) (λ_=>[])/\Ah w w wr)) (λi _=>n-(intOf i).toNat)
   (case atStart=>exact⟨0,oM,rfl,aH⟩);clear aH;obtain⟨k,de,rfl,aY⟩:=hrel;obtain⟨d,W,hM,hS,hB⟩:=aY.o;have s:=Av (d5 hM (d5 hS hB));clear hM hS hB aY;by_cases cJ:k<n
   . have dd:(k:Int)<(n:Int):=oM;obtain⟨⟨f,z⟩,N⟩:∃y,ys[k]?=K y:=⟨_,an (by have:=congrArg List.length Q.o.1;rw[mD,G.o]at this;omega)⟩;have ao:=BF Q.o.1 N;have O:=Q.o.2.2 _ (lA N);simp only[]at O;obtain⟨zp,zl,zc⟩:=z;obtain⟨ap,cp,ep⟩:∃a c,zp=Z a f.gU c:=O.1.bW;obtain⟨al,cl,el⟩:∃a c,zl=Z a f.gW c:=O.2.1.bW;obtain⟨ac,cc,ec⟩:∃a c,zc=Z a f.bO c:=O.2.2.bW;subst ep el ec;have T:=Av (d5 O (d5 (H.o.1.func f (lA ao)) (d5 ao ((H.o.2.1.aD f (lA ao)).bO))));have i0:=Ex s.o.2.2 (Rd.elem Az ah.o k _ N 0 _ rfl);have i1:=Ex s.o.2.2 (Rd.elem Az ah.o k _ N 1 _ rfl);have i2:=Ex s.o.2.2 (Rd.elem Az ah.o k _ N 2 _ rfl);have i3:=Ex s.o.2.2 (Rd.elem Az ah.o k _ N 3 _ rfl);rw[lJ]at i0;clear N ao O;(go_upto_region 7 with fail);refine Ax (λu=>Ae (DE u g k k d [] W/\Dj u p.aD w g k d (λ_=>true) (λ_=>[])/\Ah w w u/\AA u wr #[Z ap f.gU cp,iZ f.gV,Z al f.gW cl,Z ac f.bO cc] 76)) ⟨s.o.1.to (s.o.1.own.alloc _),s.o.2.1.kept (λi C B D q=>q.a7 (Aq _ _)),Ar s.o.2.2 lR (Aq _ _),AA.new _ _ _⟩ ?_
     intro U1 l;clear i0 i1 i2 i3;obtain⟨a0,a1,a2,a3⟩:=Xy l.o.2.2.2;go_wp2_with fail;refine(MS _ f.bO U1 T.o.2.1.2.2 T.o.2.2.2 (T.o.1.2.2.a7 l.o.2.2.1 lR)).mono ?_;rintro e u4 ⟨rfl,⟨X,DS,aJ,bL,bR⟩,b4⟩;have I:=Av (d5 bL (d5 bR (d5 ((by have:=T.o.2.1.2.2;omega):X<=1048576) b4)));have L:=l.o.1.own.kept (D7 b4) sP;clear bL bR aJ b4 a0 a1 a2 a3;have HR:Ae (∃d W,DE u4 g k k d [] W/\Dj u4 p.aD w g k d (λ_=>true) (λ_=>[])):=⟨d,W,l.o.1.to L,l.o.2.1.kept (λi C B D q=>q.a7 I.o.2.2.2)⟩
     have cX:Dv (k:Int):=Jj oM oM;go_wp2_with (at_mapUpdate;refine wpList_mapUpdate_own _ rfl _ _ _ 156 rfl 2 158 EY underlying156 Cs g k W rfl L oX _ _ _ rfl rfl (oD underlying2 cX) (.lit (.int Af (U1:Int))) [] rfl ?_;intro w5 bI aq);have HN:Ae (∃d W,DE w5 g (k+1) (k+1) d [] W/\Dj w5 p.aD w g (k+1) d (λ_=>true) (λ_=>[])/\Ah w w w5):=by
      have df:=nj l.o.1.own;(have cG:∀i,i<k->∀B D,AP U1 (d i) B D->AP w5 (d i) B D:= λi C B D q=>(q.a7 I.o.2.2.2).iH aq (λe=>(l.o.2.1.ne i C).2 (lP e)));refine⟨_,_,l.o.1.put bI,l.o.2.1.put cG (λi C e=> ?_) ⟨l.o.2.2.1.size,oM⟩ ⟨X,DS,I.o.2.2.1,I.o.1.iH aq (λe=>by have:=lP e;omega), λz=> ?_⟩,?_⟩
      . obtain⟨B,D,_,q,_⟩:=l.o.2.1.set i C rfl;have:=nj q;omega
      . rw[I.o.2.1 z,mC lR];unfold Et;rw[T.o.2.2.1];simp
      exact(Ar l.o.2.2.1 lR I.o.2.2.2).grown aq (Ar l.o.2.2.1 lR I.o.2.2.2).size (λj hj=>by cases hj;exact aA.o)
     clear bI aq L;go_wp2;go_roundw;(case rel=>exact⟨k+1,oM,by go_num,HN⟩);exact oI
   obtain rfl:k=n:=oM;have aZ:Ae (OW w wr p.aD g k d [] W sN):=⟨by rw[G.o];exact s.o.1,by rw[G.o];exact s.o.2.1,⟨rfl,.inl ⟨rfl,rfl⟩⟩,s.o.2.2,aA.o⟩;have bg:=Av (d5 aZ.o ((by unfold Cq;rw[G.o];rfl):C6 p.aD (k-([]:List Int).length) []=Cq p.aD));clear s aZ;obtain⟨W0,cg⟩:∃W0,W0=W:=⟨_,rfl⟩;subst cg;go_wp2;go_loopw [6] (λV wr=>∃(b:List Int) (W:DataW Unit), ↑b<=k/\(∃a c,V=Z a b c)/\Ae (OW w wr p.aD g k d b W V/\C6 p.aD (k-↑b) b=Cq p.aD)) (λV _=>k-Xm V)
   (case atStart=>exact⟨[],_,sP,⟨_,_,rfl⟩,bg⟩);clear bg;obtain⟨b,W,dm,⟨aV,cV,rfl⟩,m⟩:=hrel;have aP:=m.o.1.map.own;have cW:=m.o.1.map.size;rw[G.o]at cW;by_cases cJ: ↑b<k
   . have dh:(0:Int)<((Go.Maps.size W:Nat):Int):=oM;go_wp2_with (first
      |(at_len;refine wpList_len_own _ rfl _ 156 rfl 2 158 underlying156 _ g k _ rfl aP ?_)
      |fail)
     refine(QF g k W (Jf p.aD b) _ oM m.o.1.map.own (SI m.o.1.iw m.o.1.map)).mono ?_;rintro e u9 ⟨g9,d8,rs,rfl,aX,bQ,bC,b9⟩;have aw:=Av (d5 (m.o.1.a7 b9) b9);have cA:=QG (by rw[G.o];omega) m.o.1.map.has bQ bC;clear aP b9 bQ bC;rcases cA with⟨rfl,bG⟩|⟨q,r,rfl,hq,bK,bB⟩
     . have R:Ae (Cq p.aD=[]):=by
        show _=_;rw[<-m.o.2,show k-↑b=(k-↑b-1)+1 from oM]
        simp only[C6];rw[bG]
       clear bG aX;go_wp2;go_ret;exact⟨_,[],rfl,⟨rfl,.inl ⟨rfl,rfl⟩⟩,.inl ⟨HF.o,R.o.symm⟩,aw.o.1.ej⟩
     . have R:Ae (C6 p.aD (k-(b++[(q:Int)]).length) (b++[(q:Int)])=Cq p.aD):=by
        show _=_;rw[<-m.o.2,show k-↑b=(k-↑b-1)+1 from oM]
        simp only[C6];rw[bB,lG,lL,Nat.sub_add_eq]
       have c9:=aX.cellAt 0 sP;rw[show((Ad As ((q:Int)::r))[0]?=K (iZ (q:Int)))from rfl]at c9;have HQ:=Av (d5 hq bK);clear hq bK bB aX;have bT:Dv (q:Int):=Jj oM (by have:=HQ.o.1;have:=G.o;omega);have ae:Ae (OW w (Ac u9 (Ak #[iZ (q:Int)] 2)) p.aD g k d b W (Z aV b cV)):=aw.o.1.a7 (Aq _ _);have di:(r:Int)+1>0:=oM;go_wp2_with (first
        |(at_builtin;refine wpList_append_lies _ rfl _ _ 29 rfl w 2 k0 (iZ 0) 1 8 underlying29 hk cY cZ d6 rfl dC _ b (b.flatMap As) rfl ae.o.o u9 1 1 [iZ (q:Int)] rfl rfl (NY u9 (q:Int)) (λu hu=>by simp at hu;subst hu;rfl) oM oX oM ae.o.ej.size _ rfl ?_;intro g3 U w3 bH bx cu cQ;have aE:Ae (OX w w3 p.aD g k d b W (λi=> !b.contains (i:Int)) (λ_=>b) (b++[(q:Int)]) (sG g3 (b.length+1) U)):=ae.o.ir bx bH;have bY:=aE.o.map.own;clear bH bx cu cQ)
        |(at_delete;refine wpList_delete_own _ rfl _ _ 156 2 rfl 158 EY underlying156 _ g k W rfl bY _ _ rfl (oD underlying2 bT) ?_;intro w4 L bS;have aF:Ae (OX w w4 p.aD g k d (b++[(q:Int)]) (W.del (.int Af (q:Int))) (λi=> !(b++[(q:Int)]).contains (i:Int)) (λ_=>b) (b++[(q:Int)]) (Z g3 (b.length+1) U)):=aE.o.del HQ.o.1 HQ.o.2 L bS.grown;clear bS bY)
        |(at_range;refine wpList_range_own _ rfl _ 156 rfl 2 158 EY underlying156 _ g k _ rfl L ?_;intro w5 aS bu cU)
        |go_in)
       go_frame;have aj:=Av (d5 ((aF.o.a7 ((lu _ _).grown bu lR (λj hj=>by cases hj))).start) aF.o.ej.size);have bi:=Av aj.o.2;clear bu cU L c9 aF aE ae aw;generalize w4.heap.size=it at aS bi aj⊢;go_loopw [10] (λ_ wr=>∃(left:Lit->Bool) (B:Nat),wr.ranges Ap 2 Cs g it k (W.del (.int Af (q:Int))) left B/\Ae (OX w wr p.aD g k d (b++[(q:Int)]) (W.del (.int Af (q:Int))) (λi=> !(b++[(q:Int)]).contains (i:Int)) (KT b (q:Int) left) (b++[(q:Int)]) (Z g3 (b.length+1) U))) (λ_ wr=>wr.rangeLeft g it)
       (case atStart=>exact⟨_,_,aS,aj.o.1⟩);clear aj aS;obtain⟨left,B,P,S⟩:=hrel;go_wp2_with (first
        |(at_next;refine wpList_next_ranges _ rfl _ rfl 2 EY Cs (Value.int Af) (λ(c:Nat)=>Value.map (K c)) (λdp kl hk=>by obtain⟨x,hx,_⟩:=Go.Maps.keyOf_int_inv underlying2 hk;exact⟨x,hx⟩) (λv y hv=>by obtain⟨c,rfl,_⟩:=Ga hv;exact⟨c,rfl⟩) g it k _ _ _ rfl P ?_ ?_)
        |go_in)
       . intro d9 cH;have HD:=Av (S.o.done cH);clear P S;go_wp2;go_roundw;(case rel=>exact⟨b++[(q:Int)],_,by simp only[lG,lL];omega,⟨K g3,U,by rw[lG,lL]⟩,⟨HD.o,R.o⟩⟩);simp only[Xm];omega
       intro x c kl y ps w2 bj cE cI hv cj aR cM aM cT db;obtain⟨x',ex,rfl,dj⟩:=Go.Maps.keyOf_int_inv underlying2 cE;(obtain rfl:x=x':=by cases ex;rfl);obtain⟨c',ec,ey⟩:=Ga hv;obtain⟨rfl,rfl⟩:=Prod.mk.inj ey;clear ey;(obtain rfl:c=c':=by cases ec;rfl);obtain⟨i,rfl,C,rfl,X,DS,aJ,aT,ce⟩:=S.o.meets cI cj;have aU:AP w2 (d i) X DS:=aT.iH aM (Hu P aT);have aI:=Av (d5 (S.o.step P aR aM bi.o) P.left_eq);have bP:=aU;unfold AP at bP;clear cT S P aM aT;go_wp2_with (first
        |(at_delete;refine wpList_delete_own _ rfl _ _ 158 2 rfl 56 EY underlying158 _ (d i) X DS rfl bP _ _ rfl (oD underlying2 bT) ?_;intro w6 bJ aW;have aG:Ae (OX w w6 p.aD g k d (b++[(q:Int)]) (W.del (.int Af (q:Int))) (λi=> !(b++[(q:Int)]).contains (i:Int)) (KT b (q:Int) (λz=>left z&& !z.sameKey (.int Af (i:Int)))) (b++[(q:Int)]) (Z g3 (b.length+1) U)/\w6.ranges Ap 2 Cs g it k (W.del (.int Af (q:Int))) (λz=>left z&& !z.sameKey (.int Af (i:Int))) bj):=⟨aI.o.1.told C aJ ce aU bJ aW.grown,aR.kept aW.grown (λe=>(aI.o.1.iw.ne i C).2 (lP e).symm) (Hu aR aU).symm⟩;clear bJ aW)
        |go_in)
       go_frame;go_roundw;(case rel=>exact⟨_,bj,aG.o.2,aG.o.1⟩);rw[aG.o.2.left_eq,aI.o.2];exact cM
   have hz: ↑b=k:=oM
   have d7:Go.Maps.size W=0:=oM;(have R:Ae (b=Cq p.aD):=by have:=m.o.2;rw[hz,nM]at this;exact this);have bf:=Av (d5 m.o.1.o m.o.1.ej);go_wp2_with (first
    |(at_len;refine wpList_len_own _ rfl _ 156 rfl 2 158 underlying156 _ g k _ rfl aP ?_;rw[d7])
    |go_in)
   go_ret;refine⟨Z aV b cV,b,?_,bf.o.1,.inl ⟨HF.o,R.o⟩,bf.o.2⟩;rw[hz];rfl
 have HN:Ae (¬A6 p 0):= λe=>q0 (A6.one au e)
 have bZ:=Av F.o.2;rw[show Nx nf=.iface 153 (iZ nf)from lS q0];clear au;go_wp2;go_ret;exact⟨_,[],rfl,⟨rfl,.inl ⟨rfl,rfl⟩⟩,.inr ⟨HN.o,rfl⟩,bZ.o⟩
theorem OR:(Tryz.prog.info? 29).map (λi=>(i.zero,i.size,i.bytes))=K (K sN,1,24):=kR
theorem Fp(n:Nat):(madeCells (Z M 0 0).cells (n*1)).toList=List.replicate n sN:=by rw[Cc (λb:Bool=>[b]) [sN] [] n sN 1 rfl rfl oM];simp[BG,List.flatten_replicate_singleton]
theorem BD{a:Y}(b:w.grownBy a M):Ah w w a:=(lu _ _).grown b lR (λk c=>by cases c)
def UB(xs:List MI):Prop:=∃r,Be xs r/\r.bO=0
theorem A7{b:Nat}{t:Aj}{a0 a c d:J}(h:AA w b #[a0,a,c,d] t):w b=K a0/\w ⟨b,1,M⟩=K a/\w ⟨b,2,M⟩=K c/\w ⟨b,3,M⟩=K d:=⟨h.cell 0,h.cell 1,h.cell 2,h.cell 3⟩
theorem Eg{b:Nat}{t:Aj}{a0 a c d e f:J}(h:AA w b #[a0,a,c,d,e,f] t):w b=K a0/\w ⟨b,1,M⟩=K a/\w ⟨b,2,M⟩=K c/\w ⟨b,3,M⟩=K d/\w ⟨b,4,M⟩=K e/\w ⟨b,5,M⟩=K f:=⟨h.cell 0,h.cell 1,h.cell 2,h.cell 3,h.cell 4,h.cell 5⟩
def PA(p:MP)(a:Int):Prop:=A6 p 0/\0<=a/\∃f,p.aD[a.toNat]?=K f/\UB f.bO
theorem Sf(s:J)(n:Nat)(l:List (ML×J×J))(w:Y)(hN: ↑l=n)(hn:n<=1048576)(h:Rd w 3 s n (Ad BS l))(hS:∀y∈l,RA y)(aj:l.Pairwise λa b=>a.1.head<b.1.head):
 Ai Ap 79 #[s] w λe w'=>∃V f,e=Al V/\IX w w' V n l f/\f.Perm l/\(f.map Prod.fst).Pairwise IY:=by
 obtain⟨x,c1,u⟩:=Rd.bW h;subst u;have H:=Av (d5 h hS);have E:=Av hN;have R:=Av (Wp.start aj);clear aj;go_enter func79,ntmps79;go_wp2_with (at_builtin;refine Po rfl (.tmp 7) (.tmp 8) rfl w w (Z x n c1) l rfl rfl (by rw[E];exact H.1) H.2 lR (by rw[E];exact hn) ?_;intro V w3 aA aq);have j:Ae (IX w w3 V n l l):=⟨by rw[<-E];exact aA,E, λz hz=>hz,aq⟩;rcases Bo j.own with⟨rfl,hz⟩|⟨g,c,rfl⟩
 . subst hz;go_wp2_with fail;go_loopw [4,5,6] (λi _ _ wr=>i=iZ 0/\wr=w3) (λ_ _ _ _=>0)
   (case atStart=>exact⟨rfl,rfl⟩);obtain⟨rfl,rfl⟩:=hrel;go_wp2_with fail;go_ret;exact⟨sN,_,rfl,j,R.perm,R.done (by rw[E];exact Nat.le_refl _)⟩
 go_wp2_with fail;go_loopw [4,5,6] (λi _ _ wr=>∃(m:Nat) (f:List (ML×J×J)),m<=n/\i=iZ m/\Ae (IX w wr (sG g n c) n l f/\Wp Prod.fst l f m)) (λi _ _ _=>n-(intOf i).toNat)
 case atStart=>exact⟨0,_,oM,rfl,j,R⟩
 obtain⟨m,f,hm,rfl,j⟩:=hrel;by_cases aG:m<n;case neg=>go_wp2_with fail;go_ret;exact⟨sG g n c,_,rfl,j.1,j.2.perm,j.2.done (by rw[j.1.len];omega)⟩
 have aH:(m:Int)<(n:Int):=oM;go_wp2_with fail;go_loopw [5,6] (λk _ wr=>∃(q:Nat) (f:List (ML×J×J)),q<n/\k=iZ q/\Ae (IX w wr (sG g n c) n l f/\m<=q/\KN Prod.fst l f m q)) (λk _ _=>(intOf k).toNat)
 case atStart=>exact⟨n-1,f,oM,by go_num,j.1,oM,j.2.toI j.1.len⟩
 obtain⟨q,f,hq,rfl,j⟩:=hrel;by_cases aE:m<q;case neg=>
  go_wp2_with fail;go_roundw;case rel=>have h1:=j.2.1;obtain rfl:m=q:=oM;exact⟨m+1,f,oM,by go_num,j.1,j.2.2.next⟩
  case measure=>exact oI
 have aF:(q:Int)>(m:Int):=oM;have aI:(q:Int)<(n:Int):=oM;obtain⟨r,N⟩:∃r,q=r+1:=⟨q-1,oM⟩;have A:=Av N;have HI:Ae (KN Prod.fst l f m (r+1)):=by rw[<-N];exact j.2.2
 have Q:Ae (m<=r):=by show m<=r;omega
 obtain⟨d,x,C,B,u,ae,au,f1,f2,p0,p1,O⟩:=j.1.at_ H.2 hq;obtain⟨p,a2,b2,T,e2,ah,aw,f3,f4,q0,q1,P⟩:=j.1.at_ H.2 (show r<n by have:=A.o;omega);have G:Ae (f[r+1]?=K d/\f[r]?=K p):=⟨by rw[<-N];exact ae,ah⟩
 have g6:(q:Int)-1=(r:Int):=oM;have g3:(0:Int)<=(r:Int):=oM;have g4:(r:Int)<(n:Int):=oM;clear N;have g5:IntKind.i64.wrap (r:Int)=(r:Int):=IntWalk.i64_in _ ⟨oM,oM⟩;go_upto_region 8 with fail
 have D:Ae (IX w wr.drew (sG g n c) n l f):=⟨Aw j.1.own (At _) lR,j.1.len,j.1.sub,Ar j.1.ej lR (At _)⟩;refine wp_region_held_drew (S:= λW=>W ⟨g,q*3+2,M⟩=K (Z B d.1.a8 u)/\W ⟨g,r*3+2,M⟩=K (Z T p.1.a8 e2)) kR (by exact⟨O,P⟩) (λao=> ?_)
 clear j p0 p1 O q0 q1 P;generalize wr.drew=F at D ao⊢;refine AH 0 ?_;refine AH 1 ?_;refine AH 2 ?_;refine AH 3 ?_;refine AH 4 ?_;refine AH 5 ?_;refine AH 6 ?_;refine AH 7 ?_;refine AH 8 ?_;refine AH 9 ?_;refine AH 10 ?_;refine AH 11 ?_;refine AH 12 ?_;refine AH 13 ?_;refine wpAnyH_done kR ?_ _;go_simp;by_cases L:d.1.a8.length< ↑p.1.a8
 case neg=>
  rw[mU L];go_wp2_with fail;go_roundw;case rel=>exact⟨r,f,by have:=A.o;omega,by go_num,D,Q,HI.skip G.1 G.2 L⟩
  simp[intOf];have:=A.o;omega
 have am:Ae (KN Prod.fst l ((f.set q p).set r d) m r):=by rw[A];exact HI.swap Q G.1 G.2 L
 rw[decide_eq_true L];have PC:Ae _:=D.jL H.2 hq (show r<n by have:=A.o;omega) ae ah f1 f2 f3 f4;obtain⟨p0,p1,O,q0,q1,P⟩:=PC.o;go_upto_region 10 with fail
 have t:Ae (IX w (Ac F (Ak #[d.1.head,Z x d.1.back C,Z B d.1.a8 u] 92)) (sG g n c) n l f/\AA (Ac F (Ak #[d.1.head,Z x d.1.back C,Z B d.1.a8 u] 92)) F #[d.1.head,Z x d.1.back C,Z B d.1.a8 u] 92/\g≠ ↑F):=⟨D.a7 (Aq _ _),AA.new _ _ _, λe=>by obtain⟨_,_,h1⟩:=AD D.own;have:=(lK.1 h1).1;omega⟩
 generalize F.heap.size=X at t⊢;refine Ax (λU=>Ae (IX w U (sG g n c) n l f/\AA U X #[d.1.head,Z x d.1.back C,Z B d.1.a8 u] 92/\g≠X)) t ?_
 rintro U t;have PC:Ae _:=t.1.jL H.2 hq (show r<n by have:=A.o;omega) ae ah f1 f2 f3 f4;obtain⟨p0,p1,O,q0,q1,P⟩:=PC.o;have y0:=t.1.own.frozenAt (q*3);have y1:=t.1.own.frozenAt (q*3+1);have y2:=t.1.own.frozenAt (q*3+2);go_upto_region 11 with fail
 have v:Ae (IX w (Aa (Aa (Aa U ⟨g,q*3,M⟩ p.1.head) ⟨g,q*3+1,M⟩ (Z a2 p.1.back b2)) ⟨g,q*3+2,M⟩ (Z T p.1.a8 e2)) (Z g n c) n l (f.set q p)/\AA (Aa (Aa (Aa U ⟨g,q*3,M⟩ p.1.head) ⟨g,q*3+1,M⟩ (Z a2 p.1.back b2)) ⟨g,q*3+2,M⟩ (Z T p.1.a8 e2)) X #[d.1.head,Z x d.1.back C,Z B d.1.a8 u] 92):=⟨t.1.kM aw f3 f4,((t.2.1.other (a:=⟨g,q*3,M⟩) (λe=>t.2.2 e.symm) _).other (a:=⟨g,q*3+1,M⟩) (λe=>t.2.2 e.symm) _).other (a:=⟨g,q*3+2,M⟩) (λe=>t.2.2 e.symm) _⟩
 refine Ax (λU=>Ae (IX w U (sG g n c) n l (f.set q p)/\AA U X #[d.1.head,Z x d.1.back C,Z B d.1.a8 u] 92)) v ?_
 rintro I v;have x0:I X=K ↑d.1.head:=by rw[v.2.cell];rfl
 have x1:I ⟨X,1,M⟩=K (Z x d.1.back C):=by rw[v.2.cell];rfl
 have x2:I ⟨X,2,M⟩=K (Z B d.1.a8 u):=by rw[v.2.cell];rfl
 obtain⟨zz,_,_,_,_,_,_,_,_,k4,k5,k6⟩:=v.1.at_ H.2 (show r<n by have:=A.o;omega);have y0:=v.1.own.frozenAt (r*3);have y1:=v.1.own.frozenAt (r*3+1);have y2:=v.1.own.frozenAt (r*3+2);have E8:Ae (IX w (Aa (Aa (Aa I ⟨g,r*3,M⟩ d.1.head) ⟨g,r*3+1,M⟩ (Z x d.1.back C)) ⟨g,r*3+2,M⟩ (Z B d.1.a8 u)) (Z g n c) n l ((f.set q p).set r d)):=v.1.kM au f1 f2;go_wp2_with fail;go_roundw;case rel=>exact⟨r,_,by have:=A.o;omega,by go_num,E8,Q,am⟩
 simp[intOf];have:=A.o;omega
def FX(p:MP)(a:Int)(l:ML):Prop:=A6 p 0/\0<=a/\∃f r,p.aD[a.toNat]?=K f/\Be f.bO r/\r.bO=0/\l∈r.gX
def Kq(p:MP)(a:Int)(l:ML)(f:MF)(r:CS):Prop:=A6 p 0/\0<=a/\p.aD[a.toNat]?=K f/\Be f.bO r/\r.bO=0/\l∈r.gX
def Ot(p:MP)(a:Int)(l:ML)(n:Int):Prop:=(¬FX p a l/\n=7)\/∃f r,Kq p a l f r/\AU p a f.bO r.a8 l n
theorem Kq.own{a:Int}{f:MF}(h:Kq p a l f r):FX p a l:=⟨h.1,h.2.1,f,r,h.2.2⟩
theorem Kq.one{b:Int}{f a:MF}{r d:CS}(h:Kq p b l f r)(c:Kq p b l a d):f=a/\r=d:=by have e:=h.2.2.1;rw[c.2.2.1]at e;have e:=(lP e).symm;subst e;exact⟨rfl,h.2.2.2.1.one c.2.2.2.1⟩
theorem Ot.one{c:Int}{n d:Int}(h:Ot p c l n)(b:Ot p c l d):n=d:=by
 rcases h with⟨a,rfl⟩|⟨f,r,a,h⟩<;>rcases b with⟨a',rfl⟩|⟨e,g,a',b⟩
 . rfl
 . exact absurd a'.own a
 . exact absurd a.own a'
 obtain⟨rfl,rfl⟩:=a.one a';exact h.one b
theorem GU(h:Be xs r):r.gX.length<=1024/\∀m∈r.gX,m.back.length<=1048576/\m.a8.length<=1048576:=by
 by_cases b:r.bO=0
 . have q:=h.iq b;exact⟨q.nl, λm a=>⟨by have:=(q.loop m a).2.2.2;omega,by have:=(q.loop m a).2.2.1;omega⟩⟩
 cases h with
 |none _=>exact⟨by simp[EI], λm a=>by cases a⟩
 |off _ _ _=>exact⟨by simp[EI], λm a=>by cases a⟩
 |lost _ _ _ _ _ _ _ _=>exact⟨by simp[EI], λm a=>by cases a⟩
 |two _ _ _ _ _ _ _ _=>exact⟨by simp[EI], λm a=>by cases a⟩
 |good _ _ _ _ _ _ _ _ _=>exact absurd rfl b
theorem AU.c1{c:Int}{b:List MB}{a:MB}(h:b[l.head.toNat]?=K a)(d:Cj p.e8 c a.gZ=M):AU p c xs b l 1:=⟨a,h,.inl ⟨d,rfl⟩⟩
structure Rz(p:MP)(fi:Int)(xs:List MI)(bs:List MB)(l:ML)(hb:MB)(c:MT)(g:MI):Prop where
 iy:bs[l.head.toNat]?=K hb
 ix:Cj p.e8 fi hb.gZ=K c
 at_:xs[hb.gZ.toNat]?=K g
theorem AU.c2{d:Int}{b:List MB}{e:MB}{c:MT}{g:MI}(h:Rz p d xs b l e c g)(f:¬(g.op=27/\g.a=c.hQ)):AU p d xs b l 2:=⟨e,h.iy,.inr ⟨c,g,h.ix,h.at_,.inl ⟨f,rfl⟩⟩⟩
theorem AU.c3{d:Int}{b:List MB}{e:MB}{c:MT}{g:MI}(h:Rz p d xs b l e c g)(f:g.op=27/\g.a=c.hQ)(i:DP b l.a8 g.c):AU p d xs b l 3:=⟨e,h.iy,.inr ⟨c,g,h.ix,h.at_,.inr ⟨f,.inl ⟨i,rfl⟩⟩⟩⟩
theorem AU.c4{e:Int}{b:List MB}{d:MB}{c:MT}{g:MI}(h:Rz p e xs b l d c g)(f:g.op=27/\g.a=c.hQ)(i:¬DP b l.a8 g.c)(j:∃a,DP b l.a8 a/\a≠d.gZ/\JX xs c.hQ a):AU p e xs b l 4:=⟨d,h.iy,.inr ⟨c,g,h.ix,h.at_,.inr ⟨f,.inr ⟨i,.inl ⟨j,rfl⟩⟩⟩⟩⟩
theorem AU.c5{e:Int}{b:List MB}{d:MB}{c:MT}{g:MI}(h:Rz p e xs b l d c g)(f:g.op=27/\g.a=c.hQ)(i:¬DP b l.a8 g.c)(j:¬∃a,DP b l.a8 a/\a≠d.gZ/\JX xs c.hQ a)(k:l.head=0\/Kp p.dk xs b l c):AU p e xs b l 5:=⟨d,h.iy,.inr ⟨c,g,h.ix,h.at_,.inr ⟨f,.inr ⟨i,.inr ⟨j,.inl ⟨k,rfl⟩⟩⟩⟩⟩⟩
theorem AU.c0{e:Int}{b:List MB}{d:MB}{c:MT}{g:MI}(h:Rz p e xs b l d c g)(f:g.op=27/\g.a=c.hQ)(i:¬DP b l.a8 g.c)(j:¬∃a,DP b l.a8 a/\a≠d.gZ/\JX xs c.hQ a)(k:¬(l.head=0\/Kp p.dk xs b l c)):AU p e xs b l 0:=⟨d,h.iy,.inr ⟨c,g,h.ix,h.at_,.inr ⟨f,.inr ⟨i,.inr ⟨j,.inr ⟨k,rfl⟩⟩⟩⟩⟩⟩
theorem Ir{a:Option Addr}{n c:Nat}{t:List ML}(h:MJ u (Z a n c) t){k:Nat}{m:ML}(p:t[k]?=K m):∃g o b f d i,a=K ⟨g,o,M⟩/\u ⟨g,o+k*3,M⟩=K ↑m.head/\u ⟨g,o+k*3+1,M⟩=K (Z b m.back f)/\u ⟨g,o+k*3+2,M⟩=K (Z d m.a8 i)/\UH u (m,Z b m.back f,Z d m.a8 i):=by
 obtain⟨xs,z,A,B⟩:=h;have F:=(i8.1 p).1;obtain⟨⟨G,H,I⟩,j,r⟩:∃x,xs[k]?=K x/\x.1=m:=by rw[<-z,mE]at p;exact m6.1 p
 simp only[]at r;subst r;have q:=B _ (lA j);obtain⟨b,f,v⟩:=Rd.bW q.1;obtain⟨d,i,w⟩:=Rd.bW q.2;simp only[]at v w;subst v w;rcases A.2 with⟨e,_⟩|⟨y,E,cc,e,l⟩
 . omega
 simp only[lB]at e;have s:=Rd.elem Cp l k _ j 0 _ rfl;have C:=Rd.elem Cp l k _ j 1 _ rfl;have D:=Rd.elem Cp l k _ j 2 _ rfl;rw[lJ]at s;exact⟨y,E,b,f,d,i,e.1,s,C,D,q⟩
theorem Hk{a:Option Addr}{n c:Nat}{l:List MB}(h:I4 u (Z a n c) l){k:Nat}(j:l[k]?=K m):∃g o b d,a=K ⟨g,o,M⟩/\u ⟨g,o+k*3,M⟩=K ↑m.gZ/\u ⟨g,o+k*3+1,M⟩=K ↑m.last/\u ⟨g,o+k*3+2,M⟩=K (Z b m.next d)/\Ux u (Z b m.next d) m:=by
 obtain⟨xs,v,w,y⟩:=h;have C:=(i8.1 j).1;obtain⟨⟨D,E⟩,f,q⟩:∃x,xs[k]?=K x/\x.1=m:=by rw[<-v,mE]at j;exact m6.1 j
 simp only[]at q;subst q;have p:=y _ (lA f);obtain⟨b,d,s⟩:=Rd.bW p;simp only[]at s;subst s;rcases w.2 with⟨e,_⟩|⟨t,B,cc,e,i⟩
 . omega
 simp only[lB]at e;have r:=Rd.elem A4 i k _ f 0 _ rfl;have z:=Rd.elem A4 i k _ f 1 _ rfl;have A:=Rd.elem A4 i k _ f 2 _ rfl;rw[lJ]at r;exact⟨t,B,b,d,e.1,r,z,A,p⟩
theorem DQ.iE{c f d e:J}(h:DQ w c f d e r)(b:Ah B w g)(a: ↑w<=B):DQ g c f d e r:=⟨h.a8.a7 b a,h.gY.a7 b a,h.ig.a7 b a,h.gX.a7 b a⟩
theorem JH{i l k j:J}(h:DQ w i l k j r):∃d c1 e c2 f c3 g c4,i=Z d r.a8 c1/\l=Z e r.gY c2/\k=Z f r.ig c3/\j=Z g r.gX c4:=by
 obtain⟨d,c1,m⟩:∃a c,i=Z a r.a8 c:=by obtain⟨_,_,b,_⟩:=h.a8;exact b.bW
 obtain⟨e,c2,n⟩:=h.gY.bW;obtain⟨f,c3,p⟩:=h.ig.bW;obtain⟨g,c4,q⟩:∃a c,j=Z a r.gX c:=by obtain⟨_,_,b,_⟩:=h.gX;exact b.bW
 exact⟨d,c1,e,c2,f,c3,g,c4,m,n,p,q⟩
structure Ry(w u:Y)(v:VP)(lv:VL)(l:ML)(FB:Nat)(r:CS)(z1 z2 z3 z4:J):Prop where
 pb:AA u w #[v.r,v.k,v.f,v.t] 37
 lb:AA u ((w:Nat)+1) #[l.head,lv.b,lv.k] 92
 fb:AA u FB #[r.bO,r.at_,z1,z2,z3,z4] 84
 rf:DQ u z1 z2 z3 z4 r
 ej:Ah w w u
theorem Ry.a7{w u d:Y}{v:VP}{c:VL}{b:Nat}{e f z3 g:J}(h:Ry w u v c l b r e f z3 g)(a:Ah u u d):Ry w d v c l b r e f z3 g:=⟨h.pb.a7 a,h.lb.a7 a,h.fb.a7 a,h.rf.iE a lR,Ar h.ej lR a⟩
theorem XD{c:List MB}{d:List Int}{j b:Nat}{a:Int}(i:d[j]?=K z)(g:z=(b:Int))(h:c[b]?=K m)(e:m.gZ<=a)(f:a<=m.last):DP c d a:=⟨z,lA i,m,by rw[g,lD];exact h,e,f⟩
theorem NO{b:List MB}{c:List Int}{P:Int->Prop}(h:∀(j:Nat) (z:Int) (m:MB),c[j]?=K z->b[z.toNat]?=K m->∀a,m.gZ<=a->a<=m.last->¬P a):¬∃a,DP b c a/\P a:=by rintro⟨a,⟨z,k,m,g,d,e⟩,i⟩;obtain⟨j,f⟩:=mJ k;exact h j z m f g a d e i
def BJ(p:MP)(f:MF)(x:MI)(sh:List Int):Int:=if x.op=29 then(if sh=Ba f then 0 else 5)else Cf p f x sh
def Dt(p:MP)(f:MF)(x:MI)(sh:List Int):List Int:=if x.op=29 then[]else FR p f x sh
structure WS where
 c:Nat->Option (List Int)
 t:Nat->List Int
 d:Nat
def CR(T:Nat->List Int)(a:Nat)(sh:List Int):Nat->List Int:= λj=>if j=a then sh else T j
def Gy(C:Nat->Option (List Int))(b:Nat)(sh:List Int):Nat->Option (List Int):= λj=>if j=b then K sh else C j
abbrev Zx:=Sum (Int×Nat) (List Int×(Nat->List Int)×Nat)
def CY(p:MP)(f:MF):Nat->Nat->List Int->(Nat->List Int)->Nat->Zx
 |0,_,sh,T,D=>.inr (sh,T,D)
 | c+1,a,sh,T,D=>match f.bO[a]? with
   |none=>.inr (sh,T,D)
   |some x=>if BJ p f x sh=0 then CY p f c (a+1) (Dt p f x sh) (CR T a sh) (max D (Dt p f x sh).length)else .inl (BJ p f x sh,a)
def Gv:List Nat->List Int->(Nat->Option (List Int))->Option (Nat->Option (List Int))
 |[],_,C=>K C
 | t::r,sh,C=>match C t with
   |none=>Gv r sh (Gy C t sh)
   |some s=>if s=sh then Gv r sh C else M
abbrev Ll:=Sum (Int×Nat) WS
def QM(p:MP)(f:MF)(m:MB)(b:Nat)(s:WS):Ll:=match CY p f (m.last-m.gZ+1).toNat m.gZ.toNat ((s.c b).getD []) s.t s.d with
 |.inl e=>.inl e
 | .inr (sh,T,D)=>match Gv (m.next.map Int.toNat) sh s.c with
   |none=>.inl (4,m.last.toNat)
   |some C=>.inr ⟨C,T,D⟩
def FU(p:MP)(f:MF)(a:List MB):List Nat->WS->Ll
 |[],s=>.inr s
 | b ::r,s=>match a[b]? with
   |none=>.inr s
   | some m=>match QM p f m b s with
     |.inl e=>.inl e
     |.inr s'=>FU p f a r s'
def Mq:WS:=⟨λb=>if b=0 then K []else M, λ_=>[],0⟩
structure RC where
 bO:Int
 at_:Int
 depth:Int
 ia:List (List Int)
def Q1(n:Nat):Ll->RC
 |.inl (c,a)=>⟨c,(a:Int),0,[]⟩
 |.inr s=>⟨0,0,(s.d:Int),(List.range n).map s.t⟩
def KQ(p:MP)(a:Int)(y:RC):Prop:=(¬PA p a/\y=⟨6,0,0,[]⟩)\/(A6 p 0/\0<=a/\∃f r,p.aD[a.toNat]?=K f/\Be f.bO r/\r.bO=0/\y=Q1 f.bO.length (FU p f r.a8 (r.gY.map Int.toNat) Mq))
theorem KQ.one{c:Int}{y j:RC}(h:KQ p c y)(l:KQ p c j):y=j:=by
 rcases h with⟨a,rfl⟩|⟨q,t,f,r,d,g,m,rfl⟩<;>rcases l with⟨a',rfl⟩|⟨s,u,k,v,b,i,n,rfl⟩
 . rfl
 . exact absurd ⟨s,u,k,b,v,i,n⟩ a
 . exact absurd ⟨q,t,f,d,r,g,m⟩ a'
 rw[d]at b;have e:=lP b;subst e;have e:=g.one i;subst e;rfl
theorem Nu{L:List Nat}{n b:Nat}(r:L.Pairwise (· < ·))(w:∀x∈L,x<n)(h:(build L n)[b]?=K m)(f:m.gZ<(i:Int))(g:(i:Int)<=m.last):i∉L:=by
 unfold build at h;rw[oJ]at h;cases e1:L[b]? with
 |none=>rw[e1]at h;simp at h
 | some a=>
   cases e2:(L.tail++[n])[b]? with
   |none=>rw[e1,e2]at h;simp at h
   | some q=>
     rw[e1,e2]at h;simp only[lH]at h;subst h;simp only[]at f g;intro l;obtain⟨j,p⟩:=mJ l;obtain⟨ib,eb⟩:=i8.1 e1;obtain⟨d,u⟩:=i8.1 p;have c:=nS.1 r;have v:b<j:=by
      apply mr;intro y;by_cases e:j=b
      . subst e;omega
      have:=c j b d ib oM;omega
     (have k:L[b+1]?=K q:=by rw[<-e2,mP oT];cases L<;>simp);obtain⟨s,t⟩:=i8.1 k;by_cases e:j=b+1
     . subst e;omega
     have:=c (b+1) j s d oM;omega
theorem Ke{b:Nat}(h:(AL xs)[b]?=K m):∃a,(build (CV xs xs) xs)[b]?=K a/\m.gZ=a.gZ/\m.last=a.last:=by unfold AL at h;rw[mE]at h;obtain⟨a,c,rfl⟩:=m6.1 h;rw[Cr]at c;exact⟨a,c,rfl,rfl⟩
theorem VY{b:Nat}(h:(AL xs)[b]?=K m){x:MI}(c:xs[i]?=K x)(l:m.gZ<=(i:Int))(n:(i:Int)<m.last):x.op≠29:=by obtain⟨p,d,j,k⟩:=Ke h;obtain⟨a,e,q,r,s,t⟩:=DO h;intro g;have f:i+1<xs.length:=oM;refine Nu (C4 _ _) (λx c=>((CH _ _ _).1 c).1) d (i:=i+1) oM oM ?_;rw[CH];exact⟨f,JC xs xs i (i+1) x oM c (by simp[F7,g])⟩
theorem Nt{b t:Nat}{j:MB}(h:(AL xs)[b]?=K m)(u:(AL xs)[t]?=K j)(w:b≠t):¬(m.gZ<=j.gZ/\j.gZ<=m.last):=by
 obtain⟨L,l,B,D⟩:=Ke h;obtain⟨N,f,C,E⟩:=Ke u;rintro⟨G,H⟩;have p:∀{c:Nat} {k:MB},(build (CV xs xs) xs)[c]?=K k->∃a,(CV xs xs)[c]?=K a/\k.gZ=(a:Int):=by
  intro c k d;unfold build at d;rw[oJ]at d;cases f:(CV xs xs)[c]? with
  |none=>rw[f]at d;simp at d
  | some a=>
    cases e2:((CV xs xs).tail++[xs.length])[c]? with
    |none=>rw[f,e2]at d;simp at d
    | some q=>rw[f,e2]at d;simp only[lH]at d;subst d;exact⟨a,rfl,rfl⟩
 obtain⟨a,v,z⟩:=p l;obtain⟨a',n,A⟩:=p f;have r:=nS.1 (C4 xs xs);obtain⟨ib,eb⟩:=i8.1 v;obtain⟨s,F⟩:=i8.1 n;have I:a≠a':=by
  intro e;rcases Nat.lt_or_gt_of_ne w with g|g
  . have:=r b t ib s g;omega
  have:=r t b s ib g;omega
 exact Nu (C4 _ _) (λx y=>((CH _ _ _).1 y).1) l (i:=a') oM oM (lA n)
structure YO(w u:Y)(n G gF gP:Nat):Prop where
 ie:AA u G #[sN,sG gF n n,sN,sG gP n n,sN] 196
 iD:Ab u w 29 1 (sG gF n n) n (List.replicate n sN)
 jH:Ab u w 2 1 (sG gP n n) n (iv (λ_=>0) n)
 ej:Ah w w u
 ge: ↑w<=G
theorem YO.of{W:Y}{n a b:Nat}(d:Ab W w 29 1 (sG a n n) n (List.replicate n sN))(e:Ab W w 2 1 (sG b n n) n (iv (λ_=>0) n))(c:Ah w w W):YO w (Ac W (Ak #[sN,sG a n n,sN,sG b n n,sN] 196)) n W a b:=⟨AA.new _ _ _,Aw d (Aq _ _) lR,Aw e (Aq _ _) lR,Ar c lR (Aq _ _),c.size⟩
def FF(E:Nat->List Nat)(b k x:Nat):List Nat:=(((E b).take k).filter λy=>decide (y=x)).map λ_=>b
theorem LH(E:Nat->List Nat)(b x:Nat):BC E (b+1) x=BC E b x++FF E b (E b).length x:=by unfold BC FF;rw[nW,mH];simp
theorem RW(E:Nat->List Nat)(b x:Nat):FF E b 0 x=[]:=by simp[FF]
theorem RV{E:Nat->List Nat}{b k y:Nat}(c:(E b)[k]?=K y)(x:Nat):FF E b (k+1) x=if x=y then FF E b k x++[b]else FF E b k x:=by
 obtain⟨a,e⟩:=i8.1 c;unfold FF;rw[l8 a,nY,m9,e];by_cases q:x=y
 . subst q;simp
 simp[q,Ne.symm q]
theorem NB(E:Nat->List Nat)(b k x:Nat):(FF E b k x).length<=(E b).length:=by unfold FF;rw[mD];refine lQ (nP _ _) ?_;rw[mY];omega
theorem J6{E:Nat->List Nat}(a:∀b,(E b).length<=2)(b x:Nat):(BC E b x).length<=2*b:=by
 induction b with
 |zero=>simp[BC]
 | succ b e=>have c:=NB E b (E b).length x;have d:=a b;rw[LH,lG];omega
structure NG(w w2 u:Y)(n G gF:Nat)(PV:J)(NV:J)(NS:List J)(FS:List (J×List Nat)):Prop where
 ie:AA u G #[NV,sG gF n n,sN,PV,sN] 196
 iK:Ab u w2 29 1 NV NS NS
 iD:Ab u w 29 1 (sG gF n n) n (FS.map Prod.fst)
 io:Cl u w2 (FS.map λx=>(x.1,ints x.2))
 fx:∀k,k< ↑w2->k≠G->k≠gF->u.heap[k]?=w2.heap[k]?
 size:(w2:Nat)<= ↑u
 ej:Ah w w u
 lt: ↑w<=G/\G< ↑w2/\gF< ↑w2
theorem NG.a7{j i:Y}{n G f:Nat}{e d:J}{c:List J}{b:List (J×List Nat)}(h:NG w j u n G f e d c b)(a:Ah u u i):NG w j i n G f e d c b:=⟨h.ie.a7 a,Aw h.iK a lR,Aw h.iD a lR,h.io.iQ a, λk g l m=>by rw[a.block k (mT g h.size)];exact h.fx k g l m,lQ h.size a.size,Ar h.ej lR a,h.lt⟩
theorem NG.next{w l u d:Y}{n G j g cap:Nat}{q p x:J}{b:List J}{m:List (J×List Nat)}(h:NG w l u n G j q p b m)(hw:(w:Nat)<= ↑l)(t:Ab d l 29 1 (sG g (b.length+1) cap) (b.length+1) (b++[x]))(c:u.grownBy d p.ownBlock):AA d G #[p,sG j n n,sN,q,sN] 196/\NG w l (d.setCell G (sG g (b.length+1) cap)) n G j q (sG g (b.length+1) cap) (b++[x]) m:=by
 have f:=h.ie.grown c h.iK dC;have v:Ab d w 29 1 (sG j n n) n (m.map Prod.fst):=Dz h.iD c (λy A e=>by have r:=(h.iK.lt y e.symm).1;simp only[Value.ownBlock,lH]at A;have:=h.lt.2.2;omega);have C:=h.io.iG c h.iK dC;refine⟨f,?_,?_,?_,C.other f dC 0 _, λk s r z=> ?_,?_,?_,h.lt⟩
 . have:=f.set 0 (sG g (b.length+1) cap);simpa using this
 . rw[lG,lL];exact lI t (a:=⟨G,0,M⟩) (Gg f t dC) _
 . exact lI v (a:=⟨G,0,M⟩) (Gg f v dC) _
 . rw[mS d _ k _ r,c.block k (mT s h.size) (λe=>by have:=(h.iK.lt k e.symm).1;omega)];exact h.fx k s r z
 . rw[mc];exact lQ h.size c.size
 exact(h.ej.grown c h.ej.size (λi B=>lQ hw (h.iK.lt i B).1)).setCell h.lt.1 _
theorem To{α:Type}(A B:List α)(x y:α):(A++x::B).set A y=A++y::B:=by rw[nz _ _ lR,nM];rfl
theorem NG.ir{w m u f:Y}{n G d g cap y b:Nat}{r:J}{q:List J}{c:List (J×List Nat)}{l:List Nat}(h:NG w m u n G d v r q c)(hw:(w:Nat)<= ↑m)(E:c[y]?=K (V,l))(Q:Ab f m 2 1 (sG g (l.length+1) cap) (l.length+1) (nv l++[iZ (b:Int)]))(j:u.grownBy f V.ownBlock)(L:V.ownBlock=K g\/g= ↑u):Ab f w 29 1 (sG d n n) n (c.map Prod.fst)/\NG w m (Aa f ⟨d,y,M⟩ (sG g (l.length+1) cap)) n G d v r q (c.set y (sG g (l.length+1) cap,l++[b])):=by
 obtain⟨T,S⟩:=i8.1 E;have B:c=c.take y++(V,l)::c.drop (y+1):=by rw[<-S,<-mq T,n9]
 have O:(c.take y).length=y:=by rw[mY];omega
 have p:=h.io.own (V,ints l) (mG.2 ⟨(V,l),lA E,rfl⟩);have F:=h.ie.grown j p dC;have kn:Ab f m 29 1 r q q:=B3 h.iK j p dC;have s:Ab f w 29 1 (sG d n n) n (c.map Prod.fst):=B3 h.iD j p dC;have R:c.set y (sG g (l.length+1) cap,l++[b])=c.take y++(sG g (l.length+1) cap,l++[b])::c.drop (y+1):=by have:=To (c.take y) (c.drop (y+1)) (V,l) (sG g (l.length+1) cap,l++[b]);rw[O,<-B]at this;exact this
 have t:Cl f m ((c.set y (sG g (l.length+1) cap,l++[b])).map λx=>(x.1,ints x.2)):=by have z:=h.io;rw[B,m9,nQ]at z;rw[R,m9,nQ];refine Cl.grow (g:=g) z ?_ rfl j (L.imp id λe=>oM);simp only[];rw[AV,lG,lL,<-Df,FQ];exact Q
 have U:=h.lt.2.2;have I:d≠G:= λe=>Gg F s dC (by rw[e];rfl)
 have P:r.ownBlock≠K d:= λe=>by have:=(kn.lt d e).1;omega
 refine⟨s,F.other (Ne.symm I) _,lI kn (a:=⟨d,y,M⟩) P _,?_,⟨λx D=> ?_,t.sep⟩, λk C H A=> ?_,?_,?_,h.lt⟩
 . have:=(s.stored y (sG g (l.length+1) cap)).1;rw[List.map_set];exact this
 . refine lI (t.own x D) (a:=⟨d,y,M⟩) (λe=> ?_) _;have:=((t.own x D).lt d e).1;omega
 . rw[mS f _ k _ A,j.block k (mT C h.size) (λe=>by have:=(p.lt k e.symm).1;omega)];exact h.fx k C H A
 . rw[mc];exact lQ h.size j.size
 exact(h.ej.grown j h.ej.size (λi N=>lQ hw (p.lt i N).1)).setCell (AD s).1 _
end Go.Proofs.YtadcneiiokbofaaGreat
