import Derived.Test.YtmalfecapdmdbaaGreatHo28
import Derived.Test.YtmalfecapdmdbaaGreatHo29
import Derived.Test.YtmalfecapdmdbaaGreatHo24
namespace Go.Proofs.YtmalfecapdmdbaaGreat
open Go.ChangeShapes Go.WideShapes Go.ChangeAt Go.RowKit Go.Proofs.Tryz
set_option linter.unusedVariables false
open Go.Value renaming slice → Z,agg → Am
open Option renaming some → K,none → M
open Go renaming Value → J,World → Y,Calls → Ai,TypeId → Aj
open Go.RowKit renaming Hid → Ae,Below → Ah
open Go.Obj renaming cells → Ak
open Go.Ending renaming returned → Al
open Go.Proofs.Tryz renaming prog → Ap
open Go.World renaming ownsRow → Ab,alloc → Ac,setCell → Aa
open List renaming flatMap → Ad
set_option maxHeartbeats 8000000
set_option maxRecDepth 100000
variable {V s:J}{g b n B base k:Nat}{e:Aj}{E:Nat->List Nat}{S O:List Nat}{F:List (MB×J)}{xs:List J}{A:List (J×List Int)}
structure LP(w u:Y)(V:J)(ys:List (ML×J×J)):Prop where
 iE:Ab u w 85 3 V ys (Ad BD ys)
 gV:CI u w (ys.map λy=>(y.2.2,y.1.a8))
 e8:Ah w w u
theorem LP.a7{w u b:Y}{c:List (ML×J×J)}(h:LP w u V c)(a:Ah u u b):LP w b V c:=⟨Aw h.iE a lR,h.gV.iF a,Ar h.e8 lR a⟩
theorem LP.add{w u d f:Y}{cap:Nat}{e b:J}{a:List (ML×J×J)}{m:ML}(h:LP w u V a)(j:Ah u u d)(l:Ab d u 2 1 b m.a8 (Ad As m.a8))(p:Ab f w 85 3 (sG g (a.length+1) cap) (a.length+1) (Ad BD a++[iZ m.head,e,b]))(k:d.grownBy f V.ownBlock):LP w f (sG g (a.length+1) cap) (a++[(m,e,b)]):=by
 have c:=h.a7 j;have q:CI d w ((a++[(m,e,b)]).map λy=>(y.2.2,y.1.a8)):=by have:=h.gV.join j l h.e8.size;simpa using this
 refine⟨?_,q.iu k c.iE dC,c.e8.grown k c.e8.size (λi n=>(c.iE.lt i n).1)⟩;rw[kE,kK,lL];exact p
theorem O4{D:Nat->Nat->Bool}{l:Nat->Bool}(F:∀b,b<n->∀x∈E b,x<n)(G:b<n)(C:Vs (Bs E n) [b] [] (AH E D n b) S O)(m:∀x,l x=true↔AR E D n b x):((ints (O++[b])).mergeSort λx y=>decide (x<=y))=ints ((List.range n).filter l)/\ ↑O+1<=n:=by
 obtain⟨N,t⟩:=C.told;obtain rfl:O=N:=by simpa using t.o
 have A:∀q,q<n->∀x∈Bs E n q,x<n:= λq _ x d=>((CK E n q x).1 d).1
 have p:∀x∈O,x<n:= λx d=>by obtain⟨q,f,g⟩:=t.from_ x d;exact g.lt A ((Dt E D n b q).1 f).1
 have w:b∉O:= λq=>t.fresh b q (lV ..)
 have u:(O++[b]).Nodup:=nG.2 ⟨t.nodup,sP, λa v c r e=>by simp only[kY,lG,mS]at r;subst r e;exact w v⟩;have s:∀x,x∈O++[b]↔AR E D n b x:= λx=>by
  rw[kO,ld];unfold AR;rw[Or.comm];refine or_congr_right ?_;rw[t.iff x];constructor
  . rintro⟨q,f,g⟩;exact⟨q,f,g.mono λy k e=>k (by rw[e];simp)⟩
  rintro⟨q,f,g⟩;exact⟨q,f,g.mono λy k e=>k (by simpa using e)⟩
 have B:(ints (O++[b])).Nodup:=by unfold ints;refine mu.2 (u.imp λh e=>h oM)
 refine⟨?_,?_⟩
 . refine IV _ _ (Nu _ B) ?_ λz=> ?_
   . unfold ints;refine mu.2 ((List.Pairwise.filter _ nT).imp λh=>oM)
   rw[(nS _ _).mem_iff];unfold ints;rw[lA,lA];constructor
   . rintro⟨x,i,j⟩;refine⟨x,mO.2 ⟨mL.2 ?_,(m x).2 ((s x).1 i)⟩,j⟩;rcases kO.1 i with q|q
     . exact p x q
     (have:x=b:=by simpa using q);omega
   rintro⟨x,i,j⟩;exact⟨x,(s x).2 ((m x).1 (mO.1 i).2),j⟩
 have:=Fv (O++[b]) n (λx d=>by
  rcases kO.1 d with q|q
  . exact p x q
  have:x=b:=by simpa using q
  omega) u
 rw[kE,kK]at this;omega
theorem Tm(G n gF cF gB:Nat)(E:Nat->List Nat)(D s:Nat->Nat->Bool)(z:List (J×List Nat))(w:Y)(hn:n<=1024)(hE:∀b,b<n->∀x∈E b,x<n)(aJ:∀b,(E b).length<=2)(hL:∀h x,s h x=true↔AR E D n h x)(h1:w ⟨G,1,M⟩=K (sG gF n cF))(hF:FW w gF 0 n (Bs E n))(hB:∀x,x<n->∃V,z[x]?=K (V,AH E D n x)/\w ⟨gB,x,M⟩=K V/\I5 w V (AH E D n x)):
 Ai Ap 109 #[.pointer G,sG gB n n] w λe w'=>∃V,e=Al V/\∃f,LP w w' V f/\f.map Prod.fst=Bt E D s n n/\List.Sublist (f.map λy=>(y.2.1,y.1.back)) (z.map λx=>(x.1,ints x.2)):=by
 obtain⟨k0,hk,bj,bo,bp⟩:=lS Bp;obtain⟨l0,hl,aY,aZ,b7⟩:=lS Oc;have H:=Av (d5 hF (d5 hE (d5 aJ (d5 hL (d5 h1 hB)))));clear hF hE aJ hL h1 hB;go_enter func109,ntmps109;go_wp2;go_loopw [5,12] (λV i wr=>∃(b:Nat) (f:List (ML×J×J)) (a:Option Addr) (c:Nat),b<=n/\i=iZ b/\V=Z a f c/\ ↑f<=b/\Ae (LP w wr V f/\f.map Prod.fst=Bt E D s n b/\List.Sublist (f.map λy=>(y.2.1,y.1.back)) ((z.take b).map λx=>(x.1,ints x.2)))) (λ_ i _=>n-(intOf i).toNat)
 case atStart=>exact⟨0,[],M,0,oM,rfl,rfl,sP,⟨lQ _ _ _ _,⟨λx Q=>(by cases Q),List.Pairwise.nil⟩,kS _ _⟩,rfl,sP⟩
 obtain⟨b,f,al,cl,hb,rfl,rfl,bB,r⟩:=hrel;by_cases am:b<n
 . have bf:(b:Int)<(n:Int):=oM;obtain⟨VB,q1,q2,q3⟩:=H.2.2.2.2.2 b am;obtain⟨l,p,rfl⟩:=Rd.dk q3;have HV:=Av (d5 q1 q3);(have aw:Ae ((z.take (b+1)).map (λx=>(x.1,ints x.2))=(z.take b).map (λx=>(x.1,ints x.2))++[(Z l (AH E D n b).length p,ints (AH E D n b))]):=by obtain⟨hl,e⟩:=i6.1 q1;show _=_;rw[kU hl,e,mF];rfl);(replace q2:=Au r.1.e8 q2);(have br:(AH E D n b).length<=2048:=by have:=FY H.2.2.1 D b n;omega);clear q1 q3;by_cases U:AH E D n b=[]
   . (have aW:(AH E D n b).length=0:=by rw[U];rfl);have R:Ae (f.map Prod.fst=Bt E D s n (b+1)/\List.Sublist (f.map λy=>(y.2.1,y.1.back)) ((z.take (b+1)).map λx=>(x.1,ints x.2))):=by
      refine⟨?_,?_⟩
      . rw[DO,kZ U,m6];exact r.2.1
      rw[aw];exact r.2.2.trans (List.sublist_append_left _ _)
     rw[aW]at q2;go_wp2;go_roundw;(case rel=>exact⟨b+1,f,al,cl,oM,by go_num,by trivial,oM,r.1,R.1,R.2⟩);exact oI
   have bt:0<(AH E D n b).length:=nM.2 U;have bu:(((AH E D n b).length:Int)==0)=false:=oT;have bx:¬((AH E D n b).length:Int)=0:=oM;have f1:=Au r.1.e8 H.2.2.2.2.1;have S:=Aq wr (Ak #[(b:Int)] 2);have f2:=Au S f1;have I:=Av (d5 (Ar r.1.e8 lR S) (d5 (((AC.new wr #[(b:Int)] 2).cell 0):(Ac wr (Ak #[(b:Int)] 2)) wr=K ↑(b:Int)) S))
   clear S;go_wp2_with fail;refine(Iu gF 0 cF n (Bs E n) _ (AH E D n b) _ [b] _ hn (λq hq x Q=>((CK E n q x).1 Q).1) (λq=>by have:=JF H.2.2.1 n q;omega) (H.1.a7 I.1) (λx Q=>((Dt E D n b x).1 Q).1) oM (HV.2.a7 I.1) (.inr ⟨b,wr,1,rfl,am,rfl,I.2.1⟩)).mono ?_;rintro e v ⟨V2,S2,d,rfl,aM,aq,b2⟩;obtain⟨a2,c2,rfl⟩:=AO aq;obtain⟨aI,bq⟩:=O4 H.2.1 am aM (H.2.2.2.1 b);have A:Ae (Gh v wr (Z a2 d c2) d/\Ah wr wr v/\((ints (d++[b])).mergeSort λx y=>decide (x<=y))=ints ((List.range n).filter (s b))):=⟨Ba aq I.2.2.size,Ar I.2.2 lR b2,aI⟩
   have T:=Aq v (Ak #[(b:Int)] 2);have N:Ae (Ab (Ac v (Ak #[(b:Int)] 2)) wr 2 1 (Z a2 d c2) d (nv d)/\ ↑wr<=(Ac v (Ak #[(b:Int)] 2)).heap.size/\Ah wr wr (Ac v (Ak #[(b:Int)] 2))):=⟨A.1.a7 T,kV A.2.1.size T.size,Ar A.2.1 lR T⟩
   clear aM aq b2 aI I f1 f2 T;go_wp2_with (first
    |(at_builtin;refine wpList_append_lies _ rfl _ _ 46 rfl wr 2 k0 (iZ 0) 1 8 underlying46 hk bj bo bp rfl dC _ d (nv d) rfl N.1 v 1 1 [(b:Int)] rfl rfl (Bw v (b:Int)) (λu P=>by simp at P;subst P;rfl) oM (by simp[maxLen];omega) oM N.2.1 _ rfl ?_;intro k g w3 X W aT ao;have L:Ae (Ab w3 wr 2 1 (sG k (d.length+1) g) (d.length+1) (nv (d++[b]))/\Ah wr wr w3):=⟨by rw[Fx];exact X,N.2.2.grown W N.2.2.size (λi hi=>(A.1.lt i hi).1)⟩;clear X W aT ao)
    |fail)
   have O:Ae (Ab w3 wr 2 1 (sG k (ints (d++[b])).length g) (ints (d++[b])).length (Ad As (ints (d++[b])))/\(ints (d++[b])).length= ↑d+1):=by
    have e:(ints (d++[b])).length= ↑d+1:=by rw[AZ,kE,kK]
    rw[e,<-C7];exact⟨L.1,rfl⟩
   have ah:=UP k g wr (ints (d++[b])) w3 (by rw[O.2];omega) O.1;rw[O.2,A.2.2]at ah;refine ah.mono ?_;rintro e t ⟨rfl,aG,g4⟩;have aF:((List.range n).filter (s b)).length= ↑d+1:=by have:=congrArg List.length A.2.2;rw[(nS _ _).length_eq,O.2,AZ]at this;exact this.symm
   have aA:Ae (Ab t wr 2 1 (sG k (d.length+1) g) (ints ((List.range n).filter (s b))).length (Ad As (ints ((List.range n).filter (s b))))/\Ah wr wr t):=by refine⟨by rw[AZ,aF];exact aG,L.2.grown g4 L.2.size (λj hj=>by cases hj;exact(AD L.1).1)⟩
   clear aG g4 ah O L N A aF;have bN:=Aq t (Ak #[(b:Int),Z l (AH E D n b).length p,sG k (d.length+1) g] 85);have ae:Ae (LP w (Ac t (Ak #[(b:Int),Z l (AH E D n b).length p,sG k (d.length+1) g] 85)) (Z al f cl) f/\Ah wr wr (Ac t (Ak #[(b:Int),Z l (AH E D n b).length p,sG k (d.length+1) g] 85))/\ ↑w<=(Ac t (Ak #[(b:Int),Z l (AH E D n b).length p,sG k (d.length+1) g] 85)).heap.size):=by have aj:=Ar aA.2 lR bN;exact⟨r.1.a7 aj,aj,kV r.1.e8.size aj.size⟩
   (have aQ:Ae (∀j u,[(iZ (b:Int):J),Z l (AH E D n b).length p,sG k (d.length+1) g][j]?=K u->(Ac t (Ak #[(b:Int),Z l (AH E D n b).length p,sG k (d.length+1) g] 85)) ((⟨t,0,M⟩:Addr).add j)=K u):= λj u hj=>World.news_of_block (AC.new t #[(b:Int),Z l (AH E D n b).length p,sG k (d.length+1) g] 85) j u hj);(have aP:Ae (∀C B F,F.ownsRow w 85 3 (sG C (f.length+1) B) (f.length+1) (f.flatMap BD++[iZ (b:Int),Z l (AH E D n b).length p,sG k (d.length+1) g])->(Ac t (Ak #[iZ (b:Int),Z l (AH E D n b).length p,sG k (d.length+1) g] 85)).grownBy F (Z al f cl).ownBlock->LP w F (sG C (f.length+1) B) (f++[((⟨(b:Int),ints (AH E D n b),ints ((List.range n).filter (s b))⟩:ML),(Z l (AH E D n b).length p:J),(sG k (d.length+1) g:J))])):= λC B F X W=>r.1.add (m:=⟨(b:Int),ints (AH E D n b),ints ((List.range n).filter (s b))⟩) ae.2.1 (Aw aA.1 bN lR) X W);have au:Ae ((f++[((⟨(b:Int),ints (AH E D n b),ints ((List.range n).filter (s b))⟩:ML),(Z l (AH E D n b).length p:J),(sG k (d.length+1) g:J))]).map Prod.fst=Bt E D s n (b+1)/\List.Sublist ((f++[((⟨(b:Int),ints (AH E D n b),ints ((List.range n).filter (s b))⟩:ML),(Z l (AH E D n b).length p:J),(sG k (d.length+1) g:J))]).map λy=>(y.2.1,y.1.back)) ((z.take (b+1)).map λx=>(x.1,ints x.2))):=by
    refine⟨?_,?_⟩
    . rw[DO,kP U,mF,r.2.1];rfl
    rw[aw,mF];exact r.2.2.append (List.Sublist.refl _)
   have bg: ↑f+1<=maxLen:=oX
   have aX:(f.length+1)*56<=140737488355328:=oM;(have bi:∀u∈[(iZ (b:Int):J),Z l (AH E D n b).length p,sG k (d.length+1) g],u.oneCell'=true:= λu P=>by simp at P;rcases P with rfl|rfl|rfl<;>rfl);go_wp2_with (at_builtin;refine wpList_append_lies _ rfl _ _ 78 rfl w 85 l0 (Am #[iZ 0,sN,sN]) 3 56 underlying78 hl aY aZ b7 rfl dC _ f (f.flatMap BD) rfl ae.1.iE t 1 1 [(b:Int),Z l (AH E D n b).length p,sG k (d.length+1) g] rfl rfl aQ bi Nat.one_pos bg aX ae.2.2 _ rfl ?_;intro C B F aH aE aU ao;have aR:Ae (LP w F (sG C (f.length+1) B) (f++[((⟨(b:Int),ints (AH E D n b),ints ((List.range n).filter (s b))⟩:ML),(Z l (AH E D n b).length p:J),(sG k (d.length+1) g:J))])):=aP.o C B F aH aE;clear aH aE aU ao);go_roundw;(case rel=>exact⟨b+1,_,K C,B,oM,by go_num,by rw[kE,kK],by rw[kE,kK];omega,aR,au.1,au.2⟩);exact oI
 have aS:b=n:=oM;have bf:¬(b:Int)<(n:Int):=oM;rw[aS]at r;have R:=Av (r.2.2.trans (List.Sublist.map _ (List.take_sublist _ _)));go_wp2;go_ret;exact⟨_,rfl,f,r.1,r.2.1,R⟩
structure GT(w:Y)(base:Nat)(vb vo vi vl:J)(F:List (MB×J))(ys:List (ML×J×J))(r:DC):Prop where
 jJ:Ab w base 126 3 vb F (Ad BN F)
 ke:Ab w base 85 3 vl ys (Ad BD ys)
 gV:CI w base (Dx F++(vo,r.gJ)::(vi,r.gQ)::EM ys)
 eb:F.map Prod.fst=r.a8
 el:ys.map Prod.fst=r.gE
theorem GT.none(w:Y)(base:Nat)(c a:Int):GT w base sN sN sN sN [] [] (DY c a):=by
 refine⟨lQ _ _ _ _,lQ _ _ _ _,⟨λx d=> ?_,?_⟩,rfl,rfl⟩
 . simp[Dx,EM,DY]at d;rcases d with rfl|rfl<;>exact lQ _ _ _ _
 refine List.Pairwise.cons ?_ (List.Pairwise.cons ?_ List.Pairwise.nil)
 . intro y _ g b;cases b
 intro y _ g b;cases b
theorem CI.ranges{w:Y}{A C:List (J×List Int)}(f:CI w B A)(d:CI w b C)(h:B<=b)(l:∀x∈A,∀g,x.1.ownBlock=K g->g<b):CI w B (A++C):=by
 refine⟨λx m=> ?_,mq.2 ⟨f.sep,d.sep, λa i c j g k e=> ?_⟩⟩
 . rcases kO.1 m with q|q
   . exact f.own x q
   exact Ba (d.own x q) h
 have n:=l a i g k;have p:=((d.own c j).lt g e).1;omega
theorem Tn{w:Y}{h:Nat}{b:List (ML×J×J)}(i:CI w B (b.map λy=>(y.2.1,y.1.back)))(c:CI w h (b.map λy=>(y.2.2,y.1.a8)))(u:B<=h)(k:∀y∈b,∀g,y.2.1.ownBlock=K g->g<h):CI w B (EM b):=by
 have d:∀y∈b,∀z∈b,IY (y.2.1,y.1.back) (z.2.2,z.1.a8):= λy f z a g v e=>by have L:=k y f g v;have N:=((c.own (z.2.2,z.1.a8) (lA.2 ⟨z,a,rfl⟩)).lt g e).1;omega
 refine⟨λx E=> ?_,?_⟩
 . obtain⟨y,f,q⟩:=my.1 E;simp only[kY,lG,mS]at q;rcases q with rfl|rfl
   . exact i.own _ (lA.2 ⟨y,f,rfl⟩)
   exact Ba (c.own _ (lA.2 ⟨y,f,rfl⟩)) u
 have C:=mu.1 i.sep;have D:=mu.1 c.sep;clear i c k;unfold EM;induction b with
 |nil=>exact List.Pairwise.nil
 | cons y r G=>
   obtain⟨m,n⟩:=lg.1 C;obtain⟨s,t⟩:=lg.1 D;have H:=G (λI F z a=>d I (lU _ F) z (lU _ a)) n t;rw[lD];refine mq.2 ⟨?_,H, λp l q A=> ?_⟩
   . refine List.Pairwise.cons (λz a=> ?_) sP;simp only[kY,lG,mS]at a;subst a;exact d y (lV ..) y (lV ..)
   obtain⟨z,a,j⟩:=my.1 A;simp only[kY,lG,mS]at l j;rcases l with rfl|rfl
   . rcases j with rfl|rfl
     . exact m z a
     exact d y (lV ..) z (lU _ a)
   rcases j with rfl|rfl
   . exact(d z (lU _ a) y (lV ..)).symm
   exact s z a
theorem Ga(h:Vs E [] [] [0] S O)(x:Nat):x∈S↔x∈O:=by
 obtain⟨N,t⟩:=h.told;have:O=N:=by simpa using t.o
 subst this;rw[t.seen x];simp
theorem GU.ints{w:Y}{e:List MB}{gb d cb n:Nat}(h:GU w base V F)(m:F.map Prod.fst=e)(p:V=sO gb d n cb)(q:n= ↑e):∀b,b<n->∃f l:Int,w ⟨gb,d+b*3,M⟩=K ↑f/\w ⟨gb,d+b*3+1,M⟩=K ↑l:= λb u=>by
 have v: ↑F=n:=by rw[q,<-m,lC]
 have r:=Rd.gM h.row;rcases r.2 with⟨t,_⟩|⟨g,o,c,a,i⟩
 . omega
 rw[p]at a;simp only[i8,kI,mE,mV]at a;obtain⟨⟨rfl,rfl⟩,_,rfl⟩:=a;obtain⟨x,j⟩:∃x,F[b]?=K x:=⟨_,an oM⟩;have k:=Rd.elem A9 i b _ j 0 _ rfl;have s:=Rd.elem A9 i b _ j 1 _ rfl;rw[kJ]at k;exact⟨_,_,k,s⟩
theorem UU(f:0<n)(e:∀b,b<n->∀x∈E b,x<n)(h:Vs E [] [] [0] S O):(∀x∈O,x<n)/\O.Nodup/\ ↑O<=n/\∀x∈O,DR E (λ_=>True) 0 x:=by
 obtain⟨N,t⟩:=h.told;have:O=N:=by simpa using t.o
 subst this;have d:∀x∈O,DR E (λ_=>True) 0 x:= λx a=>by
  obtain⟨q,g,i⟩:=t.from_ x a;have:q=0:=by simpa using g
  subst this;exact i.mono λ_ _=>trivial
 have c:∀x∈O,x<n:= λx a=>(d x a).lt e f
 refine⟨c,t.nodup,?_,d⟩;have:=Fv O n c t.nodup;omega
theorem VU{w:Y}{c:Nat}(h:Ab w base e k (sG g n c) n xs):n<=c:=by
 rcases h.2 with⟨a,_⟩|⟨i,d,f,a,_,_,b,_⟩
 . cases a
 cases a
 exact b
structure GD(w1 u:Y)(n G gN cN gF gO cO gP gi:Nat)(E:Nat->List Nat)(O:List Nat)(I:Nat->Int):Prop where
 gK:AC u G #[sG gN n cN,sG gF n n,sG gO n cO,sG gP n n,sG gi n n] 191
 nx:FW u gN 0 n E
 fr:FW u gF 0 n (Bs E n)
 ord:Gh u w1 (sG gO n cO) O.reverse
 gi_:GI u G n gP n gi n (Dp O) I
 gQ:Ab u w1 2 1 (sG gi n n) n (zv I n)
 e8:Ah w1 w1 u
 ne:gO≠gi
theorem GD.a7{k u j:Y}{n G e b d f c g i:Nat}{I:Nat->Int}(h:GD k u n G e b d f c g i E O I)(a:Ah u u j):GD k j n G e b d f c g i E O I:=⟨h.gK.a7 a,h.nx.a7 a,h.fr.a7 a,h.ord.a7 a,h.gi_.a7 a,Aw h.gQ a lR,Ar h.e8 lR a,h.ne⟩
theorem GD.of{B i j A:Y}{n G p u l r t v D:Nat}{I:Nat->Int}(h:GM B i n G p u l r t v E S O)(T: ↑O=n)(U:∀x,x∈O↔x<n)(f:Ah i i j)(d:DW j A G n #[sG p n u,sG l n n,sG r n t,sG v n n] D I):GD B A n G p u l r t v D E O I:=by
 obtain⟨X,x1,x2,x3,e,z⟩:=d.gK;simp only[Array.mk.injEq,nJ,mV]at e;obtain⟨rfl,rfl,rfl,rfl⟩:=e;have P:∀(g b:Nat),g≠G->g< ↑i->j ⟨g,b,M⟩=i ⟨g,b,M⟩:= λg b _ W=>by unfold World.cell?;rw[f.block g W]
 have fx:∀k,k< ↑j->k∉[G]->A.heap[k]?=j.heap[k]?:= λk V Q=>d.fx k V (by simpa using Q)
 have R:Gh j B (sG r n t) O.reverse:=by have:=h.ord.a7 f;rw[T]at this;exact this
 have L:∀(g:Nat) {C:Nat->List Nat},FW i g 0 n C->n≠0->g<i.heap.size:= λg C q Q=>by obtain⟨a,c,F,_⟩:=q 0 oM;exact hC F
 refine⟨z,(h.nx.a7 f).jR fx (by simpa using h.ne.1) (λb a m c w s N=> ?_),(h.fr.a7 f).jR fx (by simpa using h.ne.2.1) (λb a m c w s N=> ?_),R.fx d.fx (λg H=>by simp only[Value.ownBlock,kI]at H;rw[<-H];exact h.ne.2.2.1),⟨z.cell 3,z.cell 4, λx y=>d.cell (Au f (h.pl x ((U x).2 y))) h.ne.2.2.2, λx y=> ?_⟩,Ba d.row (kV h.e8.size f.size),?_,?_⟩
 . rw[P p b h.ne.1 (L p h.nx oM)]at s;simpa using h.nn b a m c w s N
 . rw[P l b h.ne.2.1 (L l h.fr oM)]at s;simpa using h.nf b a m c w s
 . have:=d.row.cellAt x oM;rw[QH _ _ _ y]at this;exact this
 . exact(Ar h.e8 lR f).trans (d.e8.mono h.ge)
 have F:=(AD d.row).1;have:=(R.lt r rfl).2;omega
theorem S9{j:Nat->Nat}{I:Nat->Int}(h:OO E n j I)(b:Nat)(a:b<n):(b=0/\I b=-1)\/b≠0/\∃c:Nat,c<n/\I b=(c:Int)/\Gk E b c:=by
 by_cases e:b=0
 . exact .inl ⟨e,by rw[e];exact h.z⟩
 obtain⟨c,c1,c2,c3,_⟩:=h.iy.tree.up b a e ((h.all b a).resolve_left e);refine .inr ⟨e,c,c2,c1, λq=>by rw[q]at c3;omega,(h.iV c b a).1 (.up e c1 .here), λd g i=> ?_⟩;obtain⟨_,c',k,f⟩:=((h.iV d b a).2 i).iJ g;obtain rfl:c'=c:=oM;exact(h.iV d c' c2).1 f
theorem CI.sub{w:Y}{A C:List (J×List Int)}(h:CI w B C)(a:List.Sublist A C):CI w B A:=⟨λx b=>h.own x (a.subset b),h.sep.sublist a⟩
theorem CI.low{w:Y}(h:CI w B A)(a:b<=B):CI w b A:=⟨λx c=>Ba (h.own x c) a,h.sep⟩
theorem CI.six{w:Y}(h:CI w B A)(c:b<B)(d e f g i j:J):CI (six w b d e f g i j) B A:=⟨λx a=>KK (h.own x a) (RD (h.own x a) c) _ _ _ _ _ _,h.sep⟩
theorem Tx{w i d m f a:Y}{n G C A B k j D l gB r:Nat}{I:Nat->Int}{vb:J}{q:Option Addr}{v:List (J×List Nat)}{b:List (ML×J×J)}{z:List MB}{V:List ML}(s:GU i ((w:Nat)+1) vb F)(hF:F.map Prod.fst=z)(aA:(w:Nat)< ↑i)(aw:(i:Nat)<= ↑d)(ao:Ah i i f)(u:GD d m n G C A B k j D l E O I)(Q:GD d f n G C A B k j D l E O I)(hO: ↑O=n)(L:Ah m m f)(N:BK m f n gB v)(t:Ah f f a)(S:LP f.drew a (Z q b r) b)(aq:b.map Prod.fst=V)(U:List.Sublist (b.map λy=>(y.2.1,y.1.back)) (v.map λx=>(x.1,ints x.2)))(W X v2 v3 v4 v5:J):GT (six a w W X v2 v3 v4 v5) w vb (sG k n j) (sG l n n) (Z q b r) F b ⟨0,0,z,ints O.reverse,(List.range n).map I,V⟩:=by
 have H:Ah i i a:=Ar ao lR t;have au:(d:Nat)<=m.heap.size:=u.e8.size;have aE:=L.size;have R:=Q.a7 t;have A0:CI a ((w:Nat)+1) (Dx F):=s.gV.iF H;have am:Ab a d 2 1 (sG k n j) (ints O.reverse).length (Ad As (ints O.reverse)):=by have:=R.ord;unfold Gh at this;rw[C7,<-AZ]at this;exact this
 have aj:Ab a d 2 1 (sG l n n) ((List.range n).map I).length (Ad As ((List.range n).map I)):=by have:=R.gQ;rw[Wg]at this;rw[lC,mM];exact this
 have A1:CI a d [((sG k n j:J),ints O.reverse),(sG l n n,(List.range n).map I)]:=by
  refine⟨λx h=> ?_,?_⟩
  . simp only[kY,lG,mS]at h;rcases h with rfl|rfl
    . exact am
    exact aj
  refine List.Pairwise.cons (λy p=> ?_) sP;simp only[kY,lG,mS]at p;subst p;intro g c e;simp only[Value.ownBlock,kI]at c e;exact Q.ne (by rw[c,e])
 have A2:CI a m (EM b):=by
  refine Tn ((N.gV.iF t).sub U) S.gV L.size λy p g c=> ?_
  have hm:=U.subset (lA.2 ⟨y,p,rfl⟩);exact((N.gV.own _ hm).lt g c).2
 have ah:CI a d ([((sG k n j:J),ints O.reverse),(sG l n n,(List.range n).map I)]++EM b):=by
  refine A1.ranges A2 au λx h g c=> ?_
  simp only[kY,lG,mS]at h;rcases h with rfl|rfl
  . exact(u.ord.lt g c).2
  exact(u.gQ.lt g c).2
 have ae:=A0.ranges ah oM (λx h g c=>by have:=((s.gV.own x h).lt g c).2;omega);have P:=Aw s.row H lR;have T:Ab a f 85 3 (Z q b r) b (Ad BD b):=S.iE;refine⟨Ba (KK P (RD P (ny _)) _ _ _ _ _ _) (Nat.le_succ _),Ba (KK T (RD T oM) _ _ _ _ _ _) oM,?_,hF,aq⟩;exact(ae.six (ny _) W X v2 v3 v4 v5).low (Nat.le_succ _)
structure Gp(w u:Y)(G:Nat)(fc fa:Int)(vb vo vi vl vI vC:J)(bad:Bool)(I:List Nat)(C:List Int):Prop where
 gK:AC u G #[fc,fa,vb,vo,vi,vl,vI,vC,bad] 139
 lo: ↑w<=G
 ia:Ab u w 2 1 vI I (nv I)
 cost:Ab u w 2 1 vC C (Ad As C)
 ne:∀b,vI.ownBlock=K b->vC.ownBlock=K b->False
 e8:Ah w w u
 cb:∀y∈C,Ew y
section
variable {w u u':Y} {G:Nat} {fc fa:Int} {vb vo vi vl vI vC:J} {bad:Bool} {I:List Nat} {C:List Int}
theorem Gp.a7(h:Gp w u G fc fa vb vo vi vl vI vC bad I C)(a:Ah u u u'):Gp w u' G fc fa vb vo vi vl vI vC bad I C:={h with gK:=h.gK.a7 a,ia:=Aw h.ia a lR,cost:=Aw h.cost a lR,e8:=Ar h.e8 lR a}
theorem Gp.im(h:Gp w u G fc fa vb vo vi vl vI vC bad I C):Gp w (Aa u ⟨G,8,M⟩ true) G fc fa vb vo vi vl vI vC true I C:={h with gK:=by have:=h.gK.set 8 true;simpa using this,ia:=kN h.ia (a:=⟨G,8,M⟩) (λq=>BF h.ia h.gK dC _ q rfl) _,cost:=kN h.cost (a:=⟨G,8,M⟩) (λq=>BF h.cost h.gK dC _ q rfl) _,e8:=h.e8.setCell h.lo _}
theorem Gp.cells(h:Gp w u G fc fa vb vo vi vl vI vC bad I C):u ⟨G,6,M⟩=K vI/\u ⟨G,7,M⟩=K vC/\u ⟨G,8,M⟩=K ↑bad/\∀i,u.frozen? ⟨G,i,M⟩=false:=⟨by rw[h.gK.cell];rfl,by rw[h.gK.cell];rfl,by rw[h.gK.cell];rfl,h.gK.frozen⟩
theorem Jl{o:Option Nat}(h:Ab u B e k s n xs)(i:u.grownBy u' o)(j:∀b,s.ownBlock=K b->K b≠o):Ab u' B e k s n xs:=by
 refine⟨h.1,?_⟩;rcases h.2 with h|⟨g,cap,d,a,f,c,l⟩
 . exact .inl h
 refine .inr ⟨g,cap,d,a,f,?_,l⟩;rw[i.block g (kM.1 c).1 (j g (by rw[a];rfl))];exact c
theorem Sq(h:Ab u B e k s n xs)(a:s.ownBlock=K b):b<u.heap.size:=(h.lt b a).2
theorem Gp.jT(h:Gp w u G fc fa vb vo vi vl vI vC bad I C)(b:Nat)(V:J)(k:Ab u' w.heap.size 2 1 V (I.length+1) (nv I++[iZ (b:Int)]))(f:u.grownBy u' vI.ownBlock)(l:V.ownBlock=vI.ownBlock\/V.ownBlock=K u.heap.size):Gp w (Aa u' ⟨G,6,M⟩ V) G fc fa vb vo vi vl V vC bad (I++[b]) C/\u'.cell? ⟨G,6,M⟩=K vI/\u'.frozen? ⟨G,6,M⟩=false:=by
 have c:AC u' G _ _:=h.gK.grown f h.ia dC;have i:Ab u' w.heap.size 2 1 vC C.length (Ad As C):=Jl h.cost f (λb m q=>h.ne b q.symm m);refine⟨⟨by have:=c.set 6 V;simpa using this,h.lo,?_,kN i (a:=⟨G,6,M⟩) (λq=>BF i c dC _ q rfl) _, λb d g=> ?_,((h.e8.grown f h.e8.size (λj n=>(h.ia.lt j n).1)).setCell h.lo _),h.cb⟩,by rw[c.cell];rfl,c.frozen 6⟩
 . have:=kN k (a:=⟨G,6,M⟩) (λq=>BF k c dC _ q rfl) V;rw[kE,kK,Fx];exact this
 rcases l with e|e
 . exact h.ne b (e▸d) g
 rw[e]at d;have:=Sq h.cost g;simp only[kI]at d;omega
theorem Gp.jQ(h:Gp w u G fc fa vb vo vi vl vI vC bad I C){c:Int}(p:Ew c)(V:J)(l:Ab u' w.heap.size 2 1 V (C.length+1) (Ad As C++[iZ c]))(g:u.grownBy u' vC.ownBlock)(m:V.ownBlock=vC.ownBlock\/V.ownBlock=K u.heap.size):Gp w (Aa u' ⟨G,7,M⟩ V) G fc fa vb vo vi vl vI V bad I (C++[c])/\u'.cell? ⟨G,7,M⟩=K vC/\u'.frozen? ⟨G,7,M⟩=false:=by
 have d:AC u' G _ _:=h.gK.grown g h.cost dC;have k:Ab u' w.heap.size 2 1 vI I.length (nv I):=Jl h.ia g (λb n q=>h.ne b n q.symm);refine⟨⟨by have:=d.set 7 V;simpa using this,h.lo,kN k (a:=⟨G,7,M⟩) (λq=>BF k d dC _ q rfl) _,?_, λb i f=> ?_,((h.e8.grown g h.e8.size (λj r=>(h.cost.lt j r).1)).setCell h.lo _), λy s=> ?_⟩,by rw[d.cell];rfl,d.frozen 7⟩
 . have:=kN l (a:=⟨G,7,M⟩) (λq=>BF l d dC _ q rfl) V;rw[kE,kK,lL];exact this
 . rcases m with e|e
   . exact h.ne b i (e▸f)
   rw[e]at f;have:=Sq h.ia i;simp only[kI]at f;omega
 rcases kO.1 s with e|e
 . exact h.cb y e
 rw[ld.1 e];exact p
theorem Gp.gr{n gb j cb g k co:Nat}(h:Gp w u G fc fa (sO gb j n cb) (sO g k n co) vi vl vI vC bad (List.range n) C)(i: ↑C=n)(q:0<n):∃a b c cc,Gr w u G n ⟨fc,fa,gb,j,cb,g,k,co,vi,vl,a,b,c,cc⟩ bad (List.range n) C:=by
 have d:=h.ia;have f:=h.cost;rw[mM]at d;rw[i]at f;rcases BU d with⟨_,e⟩|⟨a,b,l⟩
 . omega
 rcases BU f with⟨_,e⟩|⟨c,cc,m⟩
 . omega
 subst l m;exact⟨a,b,c,cc,h.gK,h.lo,d,f, λe=>h.ne a rfl (by simp only[]at e;rw[e];rfl),h.e8,mM, λy p=>mL.1 p,i,h.cb⟩
end
end Go.Proofs.YtmalfecapdmdbaaGreat
