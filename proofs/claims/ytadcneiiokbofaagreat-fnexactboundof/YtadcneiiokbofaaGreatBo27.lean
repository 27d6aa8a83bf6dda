import Derived.Test.YtadcneiiokbofaaGreatBo23
import Derived.Test.YtadcneiiokbofaaGreatBo24
import Derived.Test.YtadcneiiokbofaaGreatBo25
namespace Go.Proofs.YtadcneiiokbofaaGreat
open Go.ChangeShapes Go.WideShapes Go.ChangeAt Go.RowKit Go.Proofs.Tryz
set_option linter.unusedVariables false
open Go.Value renaming slice → Z,agg → Am,int → Ag,bool → An,tuple → Ao
open Option renaming some → K,none → M
open Go renaming Value → J,World → Y,Calls → Ai,TypeId → Aj
open Go.RowKit renaming Hid → Ae,Below → Ah
open Go.Obj renaming cells → Ak
open Go.Ending renaming returned → Al
open Go.Proofs.Tryz renaming prog → Ap
open Go.World renaming ownsRow → Ab,alloc → Ac,setCell → Aa
open List renaming flatMap → Ad
set_option maxHeartbeats 8000000
set_option maxRecDepth 100000
variable {V s:J}{E:Nat->List Nat}{S O:List Nat}{B:Nat}{F:List (MB×J)}{e:Aj}{xs:List J}{A:List (J×List Int)}
structure LP(w u:Y)(V:J)(ys:List (ML×J×J)):Prop where
 iP:Ab u w 92 3 V ys (Ad BS ys)
 io:Cl u w (ys.map λy=>(y.2.2,y.1.a8))
 ej:Ah w w u
theorem LP.a7{w u b:Y}{c:List (ML×J×J)}(h:LP w u V c)(a:Ah u u b):LP w b V c:=⟨Aw h.iP a lR,h.io.iQ a,Ar h.ej lR a⟩
theorem LP.add{w u d f:Y}{g cap:Nat}{V e b:J}{a:List (ML×J×J)}{m:ML}(h:LP w u V a)(j:Ah u u d)(l:Ab d u 2 1 b m.a8 (Ad As m.a8))(p:Ab f w 92 3 (sG g (a.length+1) cap) (a.length+1) (Ad BS a++[iZ m.head,e,b]))(k:d.grownBy f V.ownBlock):LP w f (sG g (a.length+1) cap) (a++[(m,e,b)]):=by
 have c:=h.a7 j;have q:Cl d w ((a++[(m,e,b)]).map λy=>(y.2.2,y.1.a8)):=by have:=h.io.join j l h.ej.size;simpa using this
 refine⟨?_,q.iG k c.iP dC,c.ej.grown k c.ej.size (λi n=>(c.iP.lt i n).1)⟩;rw[lG,lL,mH];exact p
theorem PP{D:Nat->Nat->Bool}{n b:Nat}{l:Nat->Bool}(F:∀b,b<n->∀x∈E b,x<n)(G:b<n)(C:Vs (BC E n) [b] [] (AK E D n b) S O)(m:∀x,l x=true↔AR E D n b x):((ints (O++[b])).mergeSort λx y=>decide (x<=y))=ints ((List.range n).filter l)/\ ↑O+1<=n:=by
 obtain⟨N,t⟩:=C.told;obtain rfl:O=N:=by simpa using t.o
 have A:∀q,q<n->∀x∈BC E n q,x<n:= λq _ x d=>((CK E n q x).1 d).1
 have p:∀x∈O,x<n:= λx d=>by obtain⟨q,f,g⟩:=t.from_ x d;exact g.lt A ((DG E D n b q).1 f).1
 have w:b∉O:= λq=>t.fresh b q (mV ..)
 have u:(O++[b]).Nodup:=oH.2 ⟨t.nodup,sP, λa v c r e=>by simp only[lw,mK,nJ]at r;subst r e;exact w v⟩;have s:∀x,x∈O++[b]↔AR E D n b x:= λx=>by
  rw[lT,mz];unfold AR;rw[Or.comm];refine or_congr_right ?_;rw[t.iff x];constructor
  . rintro⟨q,f,g⟩;exact⟨q,f,g.mono λy k e=>k (by rw[e];simp)⟩
  rintro⟨q,f,g⟩;exact⟨q,f,g.mono λy k e=>k (by simpa using e)⟩
 have B:(ints (O++[b])).Nodup:=by unfold ints;refine nm.2 (u.imp λh e=>h oM)
 refine⟨?_,?_⟩
 . refine Jh _ _ (N6 _ B) ?_ λz=> ?_
   . unfold ints;refine nm.2 ((List.Pairwise.filter _ oh).imp λh=>oM)
   rw[(oY _ _).mem_iff];unfold ints;rw[mG,mG];constructor
   . rintro⟨x,i,j⟩;refine⟨x,nh.2 ⟨nE.2 ?_,(m x).2 ((s x).1 i)⟩,j⟩;rcases lT.1 i with q|q
     . exact p x q
     (have:x=b:=by simpa using q);omega
   rintro⟨x,i,j⟩;exact⟨x,(s x).2 ((m x).1 (nh.1 i).2),j⟩
 have:=FO (O++[b]) n (λx d=>by
  rcases lT.1 d with q|q
  . exact p x q
  have:x=b:=by simpa using q
  omega) u
 rw[lG,lL]at this;omega
theorem T6(G n gF cF gB:Nat)(E:Nat->List Nat)(D s:Nat->Nat->Bool)(z:List (J×List Nat))(w:Y)(hn:n<=1024)(hE:∀b,b<n->∀x∈E b,x<n)(aJ:∀b,(E b).length<=2)(hL:∀h x,s h x=true↔AR E D n h x)(h1:w ⟨G,1,M⟩=K (sG gF n cF))(hF:Gj w gF 0 n (BC E n))(hB:∀x,x<n->∃V,z[x]?=K (V,AK E D n x)/\w ⟨gB,x,M⟩=K V/\Jo w V (AK E D n x)):
 Ai Ap 118 #[.pointer G,sG gB n n] w λe w'=>∃V,e=Al V/\∃f,LP w w' V f/\f.map Prod.fst=BI E D s n n/\List.Sublist (f.map λy=>(y.2.1,y.1.back)) (z.map λx=>(x.1,ints x.2)):=by
 obtain⟨k0,hk,bp,bq,br⟩:=mN Br;obtain⟨l0,hl,aY,aZ,bf⟩:=mN OP;have H:=Av (d5 hF (d5 hE (d5 aJ (d5 hL (d5 h1 hB)))));clear hF hE aJ hL h1 hB;go_enter func118,ntmps118;go_wp2;go_loopw [5,12] (λV i wr=>∃(b:Nat) (f:List (ML×J×J)) (a:Option Addr) (c:Nat),b<=n/\i=iZ b/\V=Z a f c/\ ↑f<=b/\Ae (LP w wr V f/\f.map Prod.fst=BI E D s n b/\List.Sublist (f.map λy=>(y.2.1,y.1.back)) ((z.take b).map λx=>(x.1,ints x.2)))) (λ_ i _=>n-(intOf i).toNat)
 case atStart=>exact⟨0,[],M,0,oM,rfl,rfl,sP,⟨mI _ _ _ _,⟨λx Q=>(by cases Q),List.Pairwise.nil⟩,lu _ _⟩,rfl,sP⟩
 obtain⟨b,f,al,cl,hb,rfl,rfl,bF,r⟩:=hrel;by_cases am:b<n
 . have bg:(b:Int)<(n:Int):=oM;obtain⟨VB,q1,q2,q3⟩:=H.2.2.2.2.2 b am;obtain⟨l,p,rfl⟩:=Rd.bW q3;have HV:=Av (d5 q1 q3);(have aw:Ae ((z.take (b+1)).map (λx=>(x.1,ints x.2))=(z.take b).map (λx=>(x.1,ints x.2))++[(Z l (AK E D n b).length p,ints (AK E D n b))]):=by obtain⟨hl,e⟩:=i8.1 q1;show _=_;rw[l8 hl,e,m9];rfl);(replace q2:=Au r.1.ej q2);(have bu:(AK E D n b).length<=2048:=by have:=Gq H.2.2.1 D b n;omega);clear q1 q3;by_cases U:AK E D n b=[]
   . (have aW:(AK E D n b).length=0:=by rw[U];rfl);have R:Ae (f.map Prod.fst=BI E D s n (b+1)/\List.Sublist (f.map λy=>(y.2.1,y.1.back)) ((z.take (b+1)).map λx=>(x.1,ints x.2))):=by
      refine⟨?_,?_⟩
      . rw[Fg,lZ U,ny];exact r.2.1
      rw[aw];exact r.2.2.trans (List.sublist_append_left _ _)
     rw[aW]at q2;go_wp2;go_roundw;(case rel=>exact⟨b+1,f,al,cl,oM,by go_num,by trivial,oM,r.1,R.1,R.2⟩);exact oI
   have bx:0<(AK E D n b).length:=oQ.2 U;have bB:(((AK E D n b).length:Int)==0)=false:=oT;have bC:¬((AK E D n b).length:Int)=0:=oM;have f1:=Au r.1.ej H.2.2.2.2.1;have S:=Aq wr (Ak #[(b:Int)] 2);have f2:=Au S f1;have I:=Av (d5 (Ar r.1.ej lR S) (d5 (((AA.new wr #[(b:Int)] 2).cell 0):(Ac wr (Ak #[(b:Int)] 2)) wr=K ↑(b:Int)) S))
   clear S;go_wp2_with fail;refine(IV gF 0 cF n (BC E n) _ (AK E D n b) _ [b] _ hn (λq hq x Q=>((CK E n q x).1 Q).1) (λq=>by have:=J6 H.2.2.1 n q;omega) (H.1.a7 I.1) (λx Q=>((DG E D n b x).1 Q).1) oM (HV.2.a7 I.1) (.inr ⟨b,wr,1,rfl,am,rfl,I.2.1⟩)).mono ?_;rintro e v ⟨V2,S2,d,rfl,aM,aq,b2⟩;obtain⟨a2,c2,rfl⟩:=AF aq;obtain⟨aI,bt⟩:=PP H.2.1 am aM (H.2.2.2.1 b);have A:Ae (GE v wr (Z a2 d c2) d/\Ah wr wr v/\((ints (d++[b])).mergeSort λx y=>decide (x<=y))=ints ((List.range n).filter (s b))):=⟨Bb aq I.2.2.size,Ar I.2.2 lR b2,aI⟩
   have T:=Aq v (Ak #[(b:Int)] 2);have N:Ae (Ab (Ac v (Ak #[(b:Int)] 2)) wr 2 1 (Z a2 d c2) d (nv d)/\ ↑wr<=(Ac v (Ak #[(b:Int)] 2)).heap.size/\Ah wr wr (Ac v (Ak #[(b:Int)] 2))):=⟨A.1.a7 T,lQ A.2.1.size T.size,Ar A.2.1 lR T⟩
   clear aM aq b2 aI I f1 f2 T;go_wp2_with (first
    |(at_builtin;refine wpList_append_lies _ rfl _ _ 29 rfl wr 2 k0 (iZ 0) 1 8 underlying29 hk bp bq br rfl dC _ d (nv d) rfl N.1 v 1 1 [(b:Int)] rfl rfl (BM v (b:Int)) (λu P=>by simp at P;subst P;rfl) oM (by simp[maxLen];omega) oM N.2.1 _ rfl ?_;intro k g w3 X W aT ao;have L:Ae (Ab w3 wr 2 1 (sG k (d.length+1) g) (d.length+1) (nv (d++[b]))/\Ah wr wr w3):=⟨by rw[FQ];exact X,N.2.2.grown W N.2.2.size (λi hi=>(A.1.lt i hi).1)⟩;clear X W aT ao)
    |fail)
   have O:Ae (Ab w3 wr 2 1 (sG k (ints (d++[b])).length g) (ints (d++[b])).length (Ad As (ints (d++[b])))/\(ints (d++[b])).length= ↑d+1):=by
    have e:(ints (d++[b])).length= ↑d+1:=by rw[AV,lG,lL]
    rw[e,<-Df];exact⟨L.1,rfl⟩
   have ah:=We k g wr (ints (d++[b])) w3 (by rw[O.2];omega) O.1;rw[O.2,A.2.2]at ah;refine ah.mono ?_;rintro e t ⟨rfl,aG,g4⟩;have aF:((List.range n).filter (s b)).length= ↑d+1:=by have:=congrArg List.length A.2.2;rw[(oY _ _).length_eq,O.2,AV]at this;exact this.symm
   have aA:Ae (Ab t wr 2 1 (sG k (d.length+1) g) (ints ((List.range n).filter (s b))).length (Ad As (ints ((List.range n).filter (s b))))/\Ah wr wr t):=by refine⟨by rw[AV,aF];exact aG,L.2.grown g4 L.2.size (λj hj=>by cases hj;exact(AD L.1).1)⟩
   clear aG g4 ah O L N A aF;have bN:=Aq t (Ak #[(b:Int),Z l (AK E D n b).length p,sG k (d.length+1) g] 92);have ae:Ae (LP w (Ac t (Ak #[(b:Int),Z l (AK E D n b).length p,sG k (d.length+1) g] 92)) (Z al f cl) f/\Ah wr wr (Ac t (Ak #[(b:Int),Z l (AK E D n b).length p,sG k (d.length+1) g] 92))/\ ↑w<=(Ac t (Ak #[(b:Int),Z l (AK E D n b).length p,sG k (d.length+1) g] 92)).heap.size):=by have aj:=Ar aA.2 lR bN;exact⟨r.1.a7 aj,aj,lQ r.1.ej.size aj.size⟩
   (have aQ:Ae (∀j u,[(iZ (b:Int):J),Z l (AK E D n b).length p,sG k (d.length+1) g][j]?=K u->(Ac t (Ak #[(b:Int),Z l (AK E D n b).length p,sG k (d.length+1) g] 92)) ((⟨t,0,M⟩:Addr).add j)=K u):= λj u hj=>World.news_of_block (AA.new t #[(b:Int),Z l (AK E D n b).length p,sG k (d.length+1) g] 92) j u hj);(have aP:Ae (∀C B F,F.ownsRow w 92 3 (sG C (f.length+1) B) (f.length+1) (f.flatMap BS++[iZ (b:Int),Z l (AK E D n b).length p,sG k (d.length+1) g])->(Ac t (Ak #[iZ (b:Int),Z l (AK E D n b).length p,sG k (d.length+1) g] 92)).grownBy F (Z al f cl).ownBlock->LP w F (sG C (f.length+1) B) (f++[((⟨(b:Int),ints (AK E D n b),ints ((List.range n).filter (s b))⟩:ML),(Z l (AK E D n b).length p:J),(sG k (d.length+1) g:J))])):= λC B F X W=>r.1.add (m:=⟨(b:Int),ints (AK E D n b),ints ((List.range n).filter (s b))⟩) ae.2.1 (Aw aA.1 bN lR) X W);have au:Ae ((f++[((⟨(b:Int),ints (AK E D n b),ints ((List.range n).filter (s b))⟩:ML),(Z l (AK E D n b).length p:J),(sG k (d.length+1) g:J))]).map Prod.fst=BI E D s n (b+1)/\List.Sublist ((f++[((⟨(b:Int),ints (AK E D n b),ints ((List.range n).filter (s b))⟩:ML),(Z l (AK E D n b).length p:J),(sG k (d.length+1) g:J))]).map λy=>(y.2.1,y.1.back)) ((z.take (b+1)).map λx=>(x.1,ints x.2))):=by
    refine⟨?_,?_⟩
    . rw[Fg,lS U,m9,r.2.1];rfl
    rw[aw,m9];exact r.2.2.append (List.Sublist.refl _)
   have bi: ↑f+1<=maxLen:=oX
   have aX:(f.length+1)*56<=140737488355328:=oM;(have bj:∀u∈[(iZ (b:Int):J),Z l (AK E D n b).length p,sG k (d.length+1) g],u.oneCell'=true:= λu P=>by simp at P;rcases P with rfl|rfl|rfl<;>rfl);go_wp2_with (at_builtin;refine wpList_append_lies _ rfl _ _ 82 rfl w 92 l0 (Am #[iZ 0,sN,sN]) 3 56 underlying82 hl aY aZ bf rfl dC _ f (f.flatMap BS) rfl ae.1.iP t 1 1 [(b:Int),Z l (AK E D n b).length p,sG k (d.length+1) g] rfl rfl aQ bj Nat.one_pos bi aX ae.2.2 _ rfl ?_;intro C B F aH aE aU ao;have aR:Ae (LP w F (sG C (f.length+1) B) (f++[((⟨(b:Int),ints (AK E D n b),ints ((List.range n).filter (s b))⟩:ML),(Z l (AK E D n b).length p:J),(sG k (d.length+1) g:J))])):=aP.o C B F aH aE;clear aH aE aU ao);go_roundw;(case rel=>exact⟨b+1,_,K C,B,oM,by go_num,by rw[lG,lL],by rw[lG,lL];omega,aR,au.1,au.2⟩);exact oI
 have aS:b=n:=oM;have bg:¬(b:Int)<(n:Int):=oM;rw[aS]at r;have R:=Av (r.2.2.trans (List.Sublist.map _ (List.take_sublist _ _)));go_wp2;go_ret;exact⟨_,rfl,f,r.1,r.2.1,R⟩
structure Hf(w:Y)(base:Nat)(vb vo vi vl:J)(F:List (MB×J))(ys:List (ML×J×J))(r:CS):Prop where
 kp:Ab w base 90 3 vb F (Ad B4 F)
 kH:Ab w base 92 3 vl ys (Ad BS ys)
 io:Cl w base (DK F++(vo,r.gY)::(vi,r.ig)::EZ ys)
 eb:F.map Prod.fst=r.a8
 el:ys.map Prod.fst=r.gX
theorem Hf.none(w:Y)(base:Nat)(c a:Int):Hf w base sN sN sN sN [] [] (EI c a):=by
 refine⟨mI _ _ _ _,mI _ _ _ _,⟨λx d=> ?_,?_⟩,rfl,rfl⟩
 . simp[DK,EZ,EI]at d;rcases d with rfl|rfl<;>exact mI _ _ _ _
 refine List.Pairwise.cons ?_ (List.Pairwise.cons ?_ List.Pairwise.nil)
 . intro y _ g b;cases b
 intro y _ g b;cases b
theorem Cl.ranges{w:Y}{B b:Nat}{A C:List (J×List Int)}(f:Cl w B A)(d:Cl w b C)(h:B<=b)(l:∀x∈A,∀g,x.1.ownBlock=K g->g<b):Cl w B (A++C):=by
 refine⟨λx m=> ?_,nw.2 ⟨f.sep,d.sep, λa i c j g k e=> ?_⟩⟩
 . rcases lT.1 m with q|q
   . exact f.own x q
   exact Bb (d.own x q) h
 have n:=l a i g k;have p:=((d.own c j).lt g e).1;omega
theorem T7{w:Y}{h:Nat}{b:List (ML×J×J)}(i:Cl w B (b.map λy=>(y.2.1,y.1.back)))(c:Cl w h (b.map λy=>(y.2.2,y.1.a8)))(u:B<=h)(k:∀y∈b,∀g,y.2.1.ownBlock=K g->g<h):Cl w B (EZ b):=by
 have d:∀y∈b,∀z∈b,Jk (y.2.1,y.1.back) (z.2.2,z.1.a8):= λy f z a g v e=>by have L:=k y f g v;have N:=((c.own (z.2.2,z.1.a8) (mG.2 ⟨z,a,rfl⟩)).lt g e).1;omega
 refine⟨λx E=> ?_,?_⟩
 . obtain⟨y,f,q⟩:=ni.1 E;simp only[lw,mK,nJ]at q;rcases q with rfl|rfl
   . exact i.own _ (mG.2 ⟨y,f,rfl⟩)
   exact Bb (c.own _ (mG.2 ⟨y,f,rfl⟩)) u
 have C:=nm.1 i.sep;have D:=nm.1 c.sep;clear i c k;unfold EZ;induction b with
 |nil=>exact List.Pairwise.nil
 | cons y r G=>
   obtain⟨m,n⟩:=mj.1 C;obtain⟨s,t⟩:=mj.1 D;have H:=G (λI F z a=>d I (mX _ F) z (mX _ a)) n t;rw[mF];refine nw.2 ⟨?_,H, λp l q A=> ?_⟩
   . refine List.Pairwise.cons (λz a=> ?_) sP;simp only[lw,mK,nJ]at a;subst a;exact d y (mV ..) y (mV ..)
   obtain⟨z,a,j⟩:=ni.1 A;simp only[lw,mK,nJ]at l j;rcases l with rfl|rfl
   . rcases j with rfl|rfl
     . exact m z a
     exact d y (mV ..) z (mX _ a)
   rcases j with rfl|rfl
   . exact(d z (mX _ a) y (mV ..)).symm
   exact s z a
theorem Gw(h:Vs E [] [] [0] S O)(x:Nat):x∈S↔x∈O:=by
 obtain⟨N,t⟩:=h.told;have:O=N:=by simpa using t.o
 subst this;rw[t.seen x];simp
theorem Hg.ints{w:Y}{base:Nat}{d:List MB}{gb ob cb n:Nat}(h:Hg w base V F)(k:F.map Prod.fst=d)(m:V=sO gb ob n cb)(p:n= ↑d):∀b,b<n->∃f l:Int,w ⟨gb,ob+b*3,M⟩=K ↑f/\w ⟨gb,ob+b*3+1,M⟩=K ↑l:= λb t=>by
 have u: ↑F=n:=by rw[p,<-k,mD]
 have q:=Rd.ij h.row;rcases q.2 with⟨s,_⟩|⟨g,o,c,a,e⟩
 . omega
 rw[m]at a;simp only[lB,lH,nF,nU]at a;obtain⟨⟨rfl,rfl⟩,_,rfl⟩:=a;obtain⟨x,i⟩:∃x,F[b]?=K x:=⟨_,an oM⟩;have j:=Rd.elem A4 e b _ i 0 _ rfl;have r:=Rd.elem A4 e b _ i 1 _ rfl;rw[lJ]at j;exact⟨_,_,j,r⟩
theorem Wj{n:Nat}(f:0<n)(e:∀b,b<n->∀x∈E b,x<n)(h:Vs E [] [] [0] S O):(∀x∈O,x<n)/\O.Nodup/\ ↑O<=n/\∀x∈O,Ef E (λ_=>True) 0 x:=by
 obtain⟨N,t⟩:=h.told;have:O=N:=by simpa using t.o
 subst this;have d:∀x∈O,Ef E (λ_=>True) 0 x:= λx a=>by
  obtain⟨q,g,i⟩:=t.from_ x a;have:q=0:=by simpa using g
  subst this;exact i.mono λ_ _=>trivial
 have c:∀x∈O,x<n:= λx a=>(d x a).lt e f
 refine⟨c,t.nodup,?_,d⟩;have:=FO O n c t.nodup;omega
theorem Xb{w:Y}{base k n c g:Nat}(h:Ab w base e k (sG g n c) n xs):n<=c:=by
 rcases h.2 with⟨a,_⟩|⟨i,d,f,a,_,_,b,_⟩
 . cases a
 cases a
 exact b
structure GD(w1 u:Y)(n G gN cN gF gO cO gP gi:Nat)(E:Nat->List Nat)(O:List Nat)(I:Nat->Int):Prop where
 ie:AA u G #[sG gN n cN,sG gF n n,sG gO n cO,sG gP n n,sG gi n n] 196
 nx:Gj u gN 0 n E
 fr:Gj u gF 0 n (BC E n)
 ord:GE u w1 (sG gO n cO) O.reverse
 gi_:GI u G n gP n gi n (Dl O) I
 ig:Ab u w1 2 1 (sG gi n n) n (zv I n)
 ej:Ah w1 w1 u
 ne:gO≠gi
theorem GD.a7{k u j:Y}{n G e b d f c g i:Nat}{I:Nat->Int}(h:GD k u n G e b d f c g i E O I)(a:Ah u u j):GD k j n G e b d f c g i E O I:=⟨h.ie.a7 a,h.nx.a7 a,h.fr.a7 a,h.ord.a7 a,h.gi_.a7 a,Aw h.ig a lR,Ar h.ej lR a,h.ne⟩
theorem GD.of{B i j A:Y}{n G p u l r t v D:Nat}{I:Nat->Int}(h:GM B i n G p u l r t v E S O)(T: ↑O=n)(U:∀x,x∈O↔x<n)(f:Ah i i j)(d:DW j A G n #[sG p n u,sG l n n,sG r n t,sG v n n] D I):GD B A n G p u l r t v D E O I:=by
 obtain⟨X,x1,x2,x3,e,z⟩:=d.ie;simp only[Array.mk.injEq,oN,nU]at e;obtain⟨rfl,rfl,rfl,rfl⟩:=e;have P:∀(g b:Nat),g≠G->g< ↑i->j ⟨g,b,M⟩=i ⟨g,b,M⟩:= λg b _ W=>by unfold World.cell?;rw[f.block g W]
 have fx:∀k,k< ↑j->k∉[G]->A.heap[k]?=j.heap[k]?:= λk V Q=>d.fx k V (by simpa using Q)
 have R:GE j B (sG r n t) O.reverse:=by have:=h.ord.a7 f;rw[T]at this;exact this
 have L:∀(g:Nat) {C:Nat->List Nat},Gj i g 0 n C->n≠0->g<i.heap.size:= λg C q Q=>by obtain⟨a,c,F,_⟩:=q 0 oM;exact g8 F
 refine⟨z,(h.nx.a7 f).kw fx (by simpa using h.ne.1) (λb a m c w s N=> ?_),(h.fr.a7 f).kw fx (by simpa using h.ne.2.1) (λb a m c w s N=> ?_),R.fx d.fx (λg H=>by simp only[Value.ownBlock,lH]at H;rw[<-H];exact h.ne.2.2.1),⟨z.cell 3,z.cell 4, λx y=>d.cell (Au f (h.pl x ((U x).2 y))) h.ne.2.2.2, λx y=> ?_⟩,Bb d.row (lQ h.ej.size f.size),?_,?_⟩
 . rw[P p b h.ne.1 (L p h.nx oM)]at s;simpa using h.nn b a m c w s N
 . rw[P l b h.ne.2.1 (L l h.fr oM)]at s;simpa using h.nf b a m c w s
 . have:=d.row.cellAt x oM;rw[Rr _ _ _ y]at this;exact this
 . exact(Ar h.ej lR f).trans (d.ej.mono h.ge)
 have F:=(AD d.row).1;have:=(R.lt r rfl).2;omega
theorem TT{n:Nat}{j:Nat->Nat}{I:Nat->Int}(h:Pz E n j I)(b:Nat)(a:b<n):(b=0/\I b=-1)\/b≠0/\∃c:Nat,c<n/\I b=(c:Int)/\GH E b c:=by
 by_cases e:b=0
 . exact .inl ⟨e,by rw[e];exact h.z⟩
 obtain⟨c,c1,c2,c3,_⟩:=h.iL.tree.up b a e ((h.all b a).resolve_left e);refine .inr ⟨e,c,c2,c1, λq=>by rw[q]at c3;omega,(h.jt c b a).1 (.up e c1 .here), λd g i=> ?_⟩;obtain⟨_,c',k,f⟩:=((h.jt d b a).2 i).iV g;obtain rfl:c'=c:=oM;exact(h.jt d c' c2).1 f
theorem Cl.sub{w:Y}{A C:List (J×List Int)}(h:Cl w B C)(a:List.Sublist A C):Cl w B A:=⟨λx b=>h.own x (a.subset b),h.sep.sublist a⟩
theorem Cl.low{w:Y}{B b:Nat}(h:Cl w B A)(a:b<=B):Cl w b A:=⟨λx c=>Bb (h.own x c) a,h.sep⟩
theorem Cl.six{w:Y}{B b:Nat}(h:Cl w B A)(c:b<B)(d e f g i j:J):Cl (six w b d e f g i j) B A:=⟨λx a=>Lg (h.own x a) (St (h.own x a) c) _ _ _ _ _ _,h.sep⟩
theorem Ug{w i d m f a:Y}{n G C A B k j D l gB r:Nat}{I:Nat->Int}{vb:J}{q:Option Addr}{v:List (J×List Nat)}{b:List (ML×J×J)}{z:List MB}{V:List ML}(s:Hg i ((w:Nat)+1) vb F)(hF:F.map Prod.fst=z)(aA:(w:Nat)< ↑i)(aw:(i:Nat)<= ↑d)(ao:Ah i i f)(u:GD d m n G C A B k j D l E O I)(Q:GD d f n G C A B k j D l E O I)(hO: ↑O=n)(L:Ah m m f)(N:BK m f n gB v)(t:Ah f f a)(S:LP f.drew a (Z q b r) b)(aq:b.map Prod.fst=V)(U:List.Sublist (b.map λy=>(y.2.1,y.1.back)) (v.map λx=>(x.1,ints x.2)))(W X v2 v3 v4 v5:J):Hf (six a w W X v2 v3 v4 v5) w vb (sG k n j) (sG l n n) (Z q b r) F b ⟨0,0,z,ints O.reverse,(List.range n).map I,V⟩:=by
 have H:Ah i i a:=Ar ao lR t;have au:(d:Nat)<=m.heap.size:=u.ej.size;have aE:=L.size;have R:=Q.a7 t;have A0:Cl a ((w:Nat)+1) (DK F):=s.io.iQ H;have am:Ab a d 2 1 (sG k n j) (ints O.reverse).length (Ad As (ints O.reverse)):=by have:=R.ord;unfold GE at this;rw[Df,<-AV]at this;exact this
 have aj:Ab a d 2 1 (sG l n n) ((List.range n).map I).length (Ad As ((List.range n).map I)):=by have:=R.ig;rw[Xp]at this;rw[mD,m8];exact this
 have A1:Cl a d [((sG k n j:J),ints O.reverse),(sG l n n,(List.range n).map I)]:=by
  refine⟨λx h=> ?_,?_⟩
  . simp only[lw,mK,nJ]at h;rcases h with rfl|rfl
    . exact am
    exact aj
  refine List.Pairwise.cons (λy p=> ?_) sP;simp only[lw,mK,nJ]at p;subst p;intro g c e;simp only[Value.ownBlock,lH]at c e;exact Q.ne (by rw[c,e])
 have A2:Cl a m (EZ b):=by
  refine T7 ((N.io.iQ t).sub U) S.io L.size λy p g c=> ?_
  have hm:=U.subset (mG.2 ⟨y,p,rfl⟩);exact((N.io.own _ hm).lt g c).2
 have ah:Cl a d ([((sG k n j:J),ints O.reverse),(sG l n n,(List.range n).map I)]++EZ b):=by
  refine A1.ranges A2 au λx h g c=> ?_
  simp only[lw,mK,nJ]at h;rcases h with rfl|rfl
  . exact(u.ord.lt g c).2
  exact(u.ig.lt g c).2
 have ae:=A0.ranges ah oM (λx h g c=>by have:=((s.io.own x h).lt g c).2;omega);have P:=Aw s.row H lR;have T:Ab a f 92 3 (Z q b r) b (Ad BS b):=S.iP;refine⟨Bb (Lg P (St P (pE _)) _ _ _ _ _ _) (Nat.le_succ _),Bb (Lg T (St T oM) _ _ _ _ _ _) oM,?_,hF,aq⟩;exact(ae.six (pE _) W X v2 v3 v4 v5).low (Nat.le_succ _)
def Xz(r k f t p rs l c b co a d h e g:J):J:=Am #[r,k,f,t,p,rs,l,c,b,co,a,d,h,e,g]
theorem EJ(r k f t p rs l c s co a G B z A v y:J)(F:List (MB×J))(h:Nat)(m:MB)(w:Y)(P:F.length<=1048576)(d:Rd w 3 G F (Ad B4 F))(i:(F.map Prod.fst)[h]?=K m):
 Ai Ap 93 #[Xz r k f t p rs l c s co a G B z A,Am #[h,v,y]] w λe I=>e=Al m.gZ/\Ah w w I:=by
 obtain⟨x,j,rfl⟩:∃x,F[h]?=K x/\x.1=m:=by rw[mE]at i;exact m6.1 i
 obtain⟨L,c1,rfl⟩:=d.bW;have O:h<F.length:=(i8.1 j).1;rcases d.2 with⟨N,_⟩|⟨g,o,cc,D,E⟩
 . omega
 simp only[lB,mB]at D;obtain⟨rfl,rfl⟩:=D;have q:=Rd.elem A4 E h x j 0 _ rfl;rw[lJ]at q;clear E d i j;generalize F.length=n at*;have C:=Bu w #[r,k,f,t,p,rs,l,c,s,co,a,sO g o n c1,B,z,A] #[h,v,y] 164 92;unfold Xz;go_enter func93,ntmps93;go_upto_region 1 with fail
 refine Ax (λu=>AA u w #[r,k,f,t,p,rs,l,c,s,co,a,sO g o n c1,B,z,A] 164/\AA u ((w:Nat)+1) #[h,v,y] 92/\Ah w w u) C ?_
 rintro U b;clear C;rw[<-b.2.2.cell (g8 q)]at q;obtain⟨Q,R,S⟩:=B9 b.2.1;have T:=b.1.cell 11;have H:=Av b.2.2;clear b;go_wp2;go_ret;exact⟨rfl,H⟩
theorem OO(s:J)(xs:List MI)(w:Y)(hn:xs.length<=1048576)(h:Rd w 4 s xs (Ad MI.cells xs)):
 Ai Ap 90 #[s] w λe w'=>∃r vb vo vi vl F ys,e=Al (Am #[iZ r.bO,iZ r.at_,vb,vo,vi,vl])/\Be xs r/\Hf w' w vb vo vi vl F ys r/\Ah w w w':=by
 have H:=Av h;obtain⟨a1,c1,rfl⟩:=h.bW;clear h;have aF:Ae (AA (Ac w (Ak Xo 84)) w Xo 84/\Ah w w (Ac w (Ak Xo 84))):=⟨AA.new _ _ _,Aq _ _⟩
 go_enter func90,ntmps90;go_wp2_with fail;refine(LQ _ xs _ hn (H.a7 aF.2 lR)).mono ?_;rintro e U ⟨V,F,rfl,ah,cH,b1⟩;have bY:(Ac w (Ak Xo 84)).heap.size= ↑w+1:=sP
 rw[bY]at ah;have p:=Av (d5 (aF.1.a7 b1) (Ar aF.2 lR b1));clear aF b1 bY;rcases cH with⟨hg,rfl⟩|⟨hg,hF⟩
 . have r0:U w=K (iZ 0):=p.1.cell 0;have r1:U ⟨w,1,M⟩=K (iZ 0):=p.1.cell 1;have r2:U ⟨w,2,M⟩=K sN:=p.1.cell 2;have r3:U ⟨w,3,M⟩=K sN:=p.1.cell 3;have r4:U ⟨w,4,M⟩=K sN:=p.1.cell 4;have r5:U ⟨w,5,M⟩=K sN:=p.1.cell 5;have f0:=p.1.frozen 0;have f1:=p.1.frozen 1;have f2:=p.1.frozen 2;have f3:=p.1.frozen 3;have f4:=p.1.frozen 4;have f5:=p.1.frozen 5;obtain⟨ab,cb,rfl⟩:∃a c,V=Z a 0 c:=AF ah.row;have HG:=Av hg;clear hg ah;go_wp2_with fail;obtain⟨P,A,B,Q,R,T⟩:=CM p.1 (iZ 4) (iZ 0) sN sN sN sN;simp only[six]at P A B Q R T;exact lO (v:=Am #[iZ 4,iZ 0,sN,sN,sN,sN]) (by simp[results,results90,go_sem,P,A,B,Q,R,T]) rfl ⟨EI 4 0,_,_,_,_,[],[],rfl,.none HG,Hf.none _ _ _ _,CL p.2 lR _ _ _ _ _ _⟩
 have bS:I4 U V (AL xs):=by rw[<-hF];exact ah.rd
 obtain⟨gb,ob,cb,rfl,aJ,bP⟩:=bS.iF hg;have aX:=ah.ints hF rfl rfl;have aP:=Es hg;have am:=EM hg;have cZ:=hg.1;obtain⟨x,N⟩:∃x,xs[xs.length-1]?=K x:=⟨_,an oM⟩;have HG:=Av (d5 hg N);have ae:Ae ((∀b,b<(AL xs).length->∀x∈nx (AL xs) b,x<(AL xs).length)/\∀b,(nx (AL xs) b).length<=2):=⟨JF hg,JG _ (Gx xs)⟩
 obtain⟨n,aE⟩:∃n,n=(AL xs).length:=⟨_,rfl⟩;obtain⟨E,aG⟩:∃E,E=nx (AL xs):=⟨_,rfl⟩;rw[<-aE]at aJ aX;rw[<-aG]at aJ;rw[<-aE,<-aG]at ae;rw[<-aE]at aP am ah⊢;have HB:=Av (d5 ah (d5 aJ (d5 bP (d5 aX hF))));have HN:=Av (d5 aE aG);clear bS aJ bP hg aE aG ah aX hF;have cY:¬(n:Int)=0:=oM;have cX:((n:Int)==0)=false:=oT;obtain⟨gx,ox,rfl,aZ⟩:∃gx ox,a1=K ⟨gx,ox,M⟩/\(U ⟨gx,ox+(xs.length-1)*4,M⟩=K ↑x.op/\U ⟨gx,ox+(xs.length-1)*4+1,M⟩=K ↑x.a/\U ⟨gx,ox+(xs.length-1)*4+2,M⟩=K ↑x.b/\U ⟨gx,ox+(xs.length-1)*4+3,M⟩=K ↑x.c):=by
  rcases H.2 with⟨e0,_⟩|⟨gx,ox,cx,e1,aI⟩
  . omega
  simp only[lB,mB]at e1;have i0:=Rd.elem MI.dr aI (xs.length-1) _ N 0 _ rfl;rw[lJ]at i0;exact⟨gx,ox,e1.1,Au p.2 i0,Au p.2 (Rd.elem MI.dr aI (xs.length-1) _ N 1 _ rfl),Au p.2 (Rd.elem MI.dr aI (xs.length-1) _ N 2 _ rfl),Au p.2 (Rd.elem MI.dr aI (xs.length-1) _ N 3 _ rfl)⟩
 clear N;obtain⟨lx,aY⟩:∃lx,xs.length=lx+1:=⟨xs.length-1,oM⟩;rw[aY]at aZ⊢;simp only[Nat.add_sub_cancel]at aZ;obtain⟨c0,cj,c2,c3⟩:=aZ;have ce:=Av aY;have cU:lx<=1048576:=oM;have cW:(lx:Int)<=1048576:=oM;clear aY hn;go_wp2_with fail;refine(LJ x U).mono ?_;rintro e u2 ⟨rfl,b2⟩;have u:=Av (d5 (p.1.a7 b2) (d5 (Ar p.2 lR b2) b2));have aU:=Av p.1.lt;have bu:=Av b2.size;clear b2 p c0 cj c2 c3;cases hon:FW x
 . have aT:Ae (FW x=false):=hon;clear hon;go_wp2_with fail;refine(OZ gb ob cb n E u2 am aP ae.1 ae.2 (HB.2.1.a7 u.2.2) (λb hb=>by obtain⟨f,l,A,B⟩:=HB.2.2.2.1 b hb;exact⟨f,l,Au u.2.2 A,Au u.2.2 B⟩)).mono ?_;rintro e u3 ⟨G,gN,cN,gF,gO,cO,gP,S,O,rfl,aw⟩;have i:=Av aw;have aR:=Av (d5 (u.1.a7 aw.ej) (d5 (Ar u.2.1 lR aw.ej) (d5 (Ar u.2.2 lR aw.ej) aU.o)));clear aw u;obtain⟨aW,bG,cR,bH⟩:=Wj aP ae.1 i.vs;have cM:Ae ((∀x∈O,x<n)/\O.Nodup/\(∀x∈O,Ef E (λ_=>True) 0 x)):=⟨aW,bG,bH⟩
   have bt:Ae (∀k x:Nat,O.reverse[k]?=K x->u3 ⟨gO,k,M⟩=K ↑x):= λk x N=>by have ho:=i.ord;rw[<-mv]at ho;obtain⟨_,_,ee,_,q⟩:=ho.rd.at_ N;simp only[lH,nF,nU]at ee;obtain⟨rfl,rfl⟩:=ee;rw[mQ]at q;exact q
   have br:=Vv G n gN cN gO cO O.reverse u3 am (λx N=>aW x (m7.1 N)) (by rw[mv];omega) (i.ie.cell 0) (by rw[mv];exact i.ie.cell 2) bt;clear aW bG bH;go_wp2_with fail;refine br.mono ?_;rintro e u4 ⟨g9,cQ,zs,rfl,aQ,bf,aA,b4⟩;have j:=Av (d5 (aR.1.a7 b4) (d5 (Ar aR.2.1 lR b4) (d5 (Ar aR.2.2.1 lR b4) b4)));clear br b4;cases zs with
   | cons z r=>
     obtain⟨b,rfl,bK,cE⟩:=(aA z).1 (mV ..);have cT:(b:Int)<(n:Int):=oM;obtain⟨m,hm⟩:∃m,(AL xs)[b]?=K m:=⟨_,an (by rw[<-HN.1];exact bK)⟩;have m0:=Au j.2.2.1 (HB.2.2.1 b m hm);have z0:=aQ.cellAt 0 sP;simp only[mF,As,mM,lC]at z0;(have cI:(0:Int)<(((b:Int)::r).length:Int):=by rw[mW];omega);have aq:Ae (Be xs (EI 2 m.gZ)):=.lost HG.1 HG.2 aT (S:=S) (O:=O) (by rw[<-HN.2];exact i.vs) (by rw[<-HN.1];exact bK) (λq=>cE (m7.2 ((Gw i.vs b).1 q))) (λc hc=>by
      refine(Gw i.vs c).2 (m7.1 (mr λq=> ?_));have h1:=(aA (c:Int)).2 ⟨c,rfl,oM,q⟩;rcases lw.1 h1 with e|e
      . omega
      have:=(mj.1 bf).1 _ e;omega) hm
     generalize cu:((b:Int)::r).length=lz at cI aQ;clear aQ bf aA hm cu;have r0:u4 w=K (iZ 0):=j.1.cell 0;have r1:u4 ⟨w,1,M⟩=K (iZ 0):=j.1.cell 1;have r2:u4 ⟨w,2,M⟩=K sN:=j.1.cell 2;have r3:u4 ⟨w,3,M⟩=K sN:=j.1.cell 3;have r4:u4 ⟨w,4,M⟩=K sN:=j.1.cell 4;have r5:u4 ⟨w,5,M⟩=K sN:=j.1.cell 5;have f0:=j.1.frozen 0;have f1:=j.1.frozen 1;have f2:=j.1.frozen 2;have f3:=j.1.frozen 3;have f4:=j.1.frozen 4;have f5:=j.1.frozen 5;go_wp2_with fail;obtain⟨P,A,B,Q,R,T⟩:=CM j.1 (iZ 2) m.gZ sN sN sN sN;simp only[six]at P A B Q R T;exact lO (v:=Am #[iZ 2,m.gZ,sN,sN,sN,sN]) (by simp[results,results90,go_sem,P,A,B,Q,R,T]) rfl ⟨EI 2 m.gZ,_,_,_,_,[],[],rfl,aq,Hf.none _ _ _ _,CL j.2.1 lR _ _ _ _ _ _⟩
   | nil=>
     (have bI:∀c,c<n->c∈O:= λc hc=>m7.1 (mr λq=>by have:=(aA (c:Int)).2 ⟨c,rfl,hc,q⟩;cases this));obtain⟨hP,bR,cA,bF,cw⟩:=CA aP ae.1 i.vs (λc hc=>(Gw i.vs c).2 (bI c hc));have X:=Av (d5 hP (d5 bR (d5 bF cA)));clear aQ bf aA bI hP bR bF cw;have bj:=OJ G n gN cN gF n gO cO gP n E O u4 am X.1 X.2.2.2 X.2.1 X.2.2.1 (λb=>by have:=J6 ae.2 n b;omega) (by have ho:=i.ord;unfold GE at ho;rw[mv]at ho;have:=Xb ho;rw[X.2.2.2]at this;exact this) (by have:=i.ie.a7 j.2.2.2;rw[X.2.2.2]at this;exact this) (i.fr.a7 j.2.2.2) (λk x N=>Au j.2.2.2 (bt.o k x N)) (λx N=>Au j.2.2.2 (i.pl x ((X.2.2.1 x).2 N))) ⟨i.ne.1,i.ne.2.1,i.ne.2.2.1,i.ne.2.2.2, λb a c hb hc=>by obtain⟨a',c',A,_⟩:=i.fr b hb;rw[mQ]at A;have B:=Au j.2.2.2 A;rw[hc]at B;exact i.nf b a (BC E n b).length c hb (A.trans B.symm)⟩;go_wp2_with fail;refine bj.mono ?_;rintro e u5 ⟨rfl,gi,I,au,bL⟩;have aj:=Av (d5 (GD.of i X.2.2.2 X.2.2.1 j.2.2.2 au) bL);have aS:Ae (AA u5 w Xo 84/\Ah w w u5/\Ah U U u5):=by have h1:=i.ge;have h2:=bu.o;have h3:=aU.o;refine⟨?_,j.2.1.trans (au.ej.mono oM),j.2.2.1.trans (au.ej.mono oM)⟩;have k:=j.1;unfold AA at*;rw[au.fx w (lK.1 k).1 oM];exact k
     clear bj au bL;obtain⟨D,hD⟩:∃D:Nat->Nat->Bool,∀d b,D d b=true↔C9 E d b:=⟨λd b=> @decide _ (Classical.propDecidable (C9 E d b)), λd b=>sP⟩;have HD:=Av hD;clear hD;have bi:=MQ G n gN cN gP n gi n E O I D u5 am X.1 aj.2 HD ae.2 (aj.1.ie.cell 0) aj.1.nx aj.1.gi_;go_wp2_with fail;refine bi.mono ?_;rintro e W ⟨cG,b6⟩;have g:=Av (d5 (aS.1.a7 b6) (d5 (Ar aS.2.1 lR b6) (d5 (Ar aS.2.2 lR b6) (d5 (aj.1.a7 b6) b6))));clear bi b6;rcases cG with⟨b,k,y,rfl,aH⟩|⟨gB,FS,rfl,bQ,bJ,bB,bx⟩
     . have cJ:y<n:=ae.1 b aH.lt y (lA aH.at_);have d8:(y:Int)<(n:Int):=oM;have d6:((y:Int)== -1)=false:=sP;have d7:((y:Int) != -1)=true:=sP;obtain⟨m,hm⟩:∃m,(AL xs)[y]?=K m:=⟨_,an (by rw[<-HN.1];exact cJ)⟩;have m0:=Au g.2.2.1 (HB.2.2.1 y m hm);(have aq:Ae (Be xs (EI 3 m.gZ)):=by refine .two (D:=D) (b:=b) (k:=k) (t:=y) HG.1 HG.2 aT (S:=S) (O:=O) (by rw[<-HN.2];exact i.vs) (by rw[<-HN.1];exact λc hc=>(Gw i.vs c).2 ((X.2.2.1 c).2 hc)) (by rw[<-HN.2];exact HD) ?_ hm;rw[<-HN.1,<-HN.2];exact aH);clear hm aH;have r0:W w=K (iZ 0):=g.1.cell 0;have r1:W ⟨w,1,M⟩=K (iZ 0):=g.1.cell 1;have r2:W ⟨w,2,M⟩=K sN:=g.1.cell 2;have r3:W ⟨w,3,M⟩=K sN:=g.1.cell 3;have r4:W ⟨w,4,M⟩=K sN:=g.1.cell 4;have r5:W ⟨w,5,M⟩=K sN:=g.1.cell 5;have f0:=g.1.frozen 0;have f1:=g.1.frozen 1;have f2:=g.1.frozen 2;have f3:=g.1.frozen 3;have f4:=g.1.frozen 4;have f5:=g.1.frozen 5;go_wp2_with fail;obtain⟨P,A,B,Q,R,T⟩:=CM g.1 (iZ 3) m.gZ sN sN sN sN;simp only[six]at P A B Q R T;exact lO (v:=Am #[iZ 3,m.gZ,sN,sN,sN,sN]) (by simp[results,results90,go_sem,P,A,B,Q,R,T]) rfl ⟨EI 3 m.gZ,_,_,_,_,[],[],rfl,aq,Hf.none _ _ _ _,CL g.2.1 lR _ _ _ _ _ _⟩
     have ao:Ae (BK u5 W n gB FS/\(∀b,b<n->∀t∈E b,¬My O D b t)/\ ↑FS=n/\∀x,x<n->∃V,FS[x]?=K (V,AK E D n x)):=⟨bJ,bQ,bB,bx⟩
     clear bJ bQ bB bx;obtain⟨Lf,bC⟩:∃L:Nat->Nat->Bool,∀h y,L h y=true↔AR E D n h y:=⟨λh y=> @decide _ (Classical.propDecidable (AR E D n h y)), λh y=>sP⟩;have bq:=Av bC;clear bC;have bD:=At W;have bp:=T6 G n gF n gB E D Lf FS W.drew am ae.1 ae.2 bq ((g.2.2.2.1.ie.a7 bD).cell 1) (g.2.2.2.1.fr.a7 bD) (λx N=>by
      obtain⟨V,hV⟩:=ao.2.2.2 x N;refine⟨V,hV,?_,?_⟩
      . have:=(ao.1.a7 bD).iD.cellAt x oM;rw[mE,hV]at this;exact this
      have:=Rd.ij ((ao.1.a7 bD).io.own (V,ints (AK E D n x)) (mG.2 ⟨(V,_),lA hV,rfl⟩));simp only[AV]at this;rw[<-Df]at this;exact this)
     have bZ:=Av bp;have x2:W.drew ⟨G,2,M⟩=K (sG gO n cO):=(g.2.2.2.1.ie.a7 bD).cell 2;have x4:W.drew ⟨G,4,M⟩=K (sG gi n n):=(g.2.2.2.1.ie.a7 bD).cell 4;clear bD bp;(go_upto_region 15 with fail);go_region_law ((go_simp;go_at_call 118;refine bZ.mono ?_;rintro e u7 ⟨VL,rfl,ys,aM,bV,bT⟩;obtain⟨aL,cL,rfl⟩:=AF aM.iP;have C:Ae (Ah W W u7):=BP aM.ej lR;have H7:Ae (LP W.drew u7 (Z aL ys cL) ys/\ys.map Prod.fst=BI E D Lf n n/\List.Sublist (ys.map λy=>(y.2.1,y.1.back)) (FS.map λx=>(x.1,ints x.2))):=⟨aM,bV,bT⟩;have y2:u7 ⟨G,2,M⟩=K (sG gO n cO):=(g.2.2.2.1.ie.a7 C).cell 2;have y4:u7 ⟨G,4,M⟩=K (sG gi n n):=(g.2.2.2.1.ie.a7 C).cell 4;have r0:u7 w=K (iZ 0):=(g.1.a7 C).cell 0;have r1:u7 ⟨w,1,M⟩=K (iZ 0):=(g.1.a7 C).cell 1;have r2:u7 ⟨w,2,M⟩=K sN:=(g.1.a7 C).cell 2;have r3:u7 ⟨w,3,M⟩=K sN:=(g.1.a7 C).cell 3;have r4:u7 ⟨w,4,M⟩=K sN:=(g.1.a7 C).cell 4;have r5:u7 ⟨w,5,M⟩=K sN:=(g.1.a7 C).cell 5;have f0:=(g.1.a7 C).frozen 0;have f1:=(g.1.a7 C).frozen 1;have f2:=(g.1.a7 C).frozen 2;have f3:=(g.1.a7 C).frozen 3;have f4:=(g.1.a7 C).frozen 4;have f5:=(g.1.a7 C).frozen 5;clear aM bV bT))
     all_goals
      have aq:=Av (NA HN.1 HN.2 HG.1 HG.2 aT i.vs (λc hc=>(Gw i.vs c).2 ((X.2.2.1 c).2 hc)) HD ao.2.1 (TT aj.2) bq);have cg:Ae (Hf (six u7 w (iZ 0) (iZ 0) (sO gb ob n cb) (sG gO n cO) (sG gi n n) (Z aL ys cL)) w (sO gb ob n cb) (sG gO n cO) (sG gi n n) (Z aL ys cL) F ys ⟨0,0,AL xs,ints O.reverse,(List.range n).map I,BI E D Lf n n⟩):=Ug HB.1 HB.2.2.2.2 aU bu g.2.2.1 aj.1 g.2.2.2.1 X.2.2.2 g.2.2.2.2 ao.1 C H7.1 H7.2.1 H7.2.2 _ _ _ _ _ _;have bg:=Av (d5 (g.1.a7 C) (Ar g.2.1 lR C));clear x2 x4 y2 y4 r0 r1 r2 r3 r4 r5 f0 f1 f2 f3 f4 f5;go_wp2_with fail;obtain⟨P,A,B,Q,R,T⟩:=CM bg.1 (iZ 0) (iZ 0) (sO gb ob n cb) (sG gO n cO) (sG gi n n) (Z aL ys cL);simp only[six]at P A B Q R T;exact lO (v:=Am #[iZ 0,iZ 0,sO gb ob n cb,sG gO n cO,sG gi n n,Z aL ys cL]) (by simp[results,results90,go_sem,P,A,B,Q,R,T]) rfl ⟨⟨0,0,AL xs,ints O.reverse,(List.range n).map I,BI E D Lf n n⟩,_,_,_,_,F,ys,rfl,aq,cg,CL bg.2 lR _ _ _ _ _ _⟩
 have r0:u2 w=K (iZ 0):=u.1.cell 0;have r1:u2 ⟨w,1,M⟩=K (iZ 0):=u.1.cell 1;have r2:u2 ⟨w,2,M⟩=K sN:=u.1.cell 2;have r3:u2 ⟨w,3,M⟩=K sN:=u.1.cell 3;have r4:u2 ⟨w,4,M⟩=K sN:=u.1.cell 4;have r5:u2 ⟨w,5,M⟩=K sN:=u.1.cell 5;have f0:=u.1.frozen 0;have f1:=u.1.frozen 1;have f2:=u.1.frozen 2;have f3:=u.1.frozen 3;have f4:=u.1.frozen 4;have f5:=u.1.frozen 5;go_wp2_with fail;obtain⟨P,A,B,Q,R,T⟩:=CM u.1 (iZ 1) lx sN sN sN sN;simp only[six]at P A B Q R T;refine lO (v:=Am #[iZ 1,lx,sN,sN,sN,sN]) (by simp[results,results90,go_sem,P,A,B,Q,R,T]) rfl ⟨EI 1 ((xs:Int)-1),_,_,_,_,[],[],?_,.off HG.1 HG.2 hon,Hf.none _ _ _ _,CL u.2.1 lR _ _ _ _ _ _⟩;have:((xs:Int)-1)=(lx:Int):=by rw[ce];omega
 simp only[EI,this]
structure FA where
 a:Option Addr
 n:Nat
 c:Nat
structure B2 where
 r:FA
 k:FA
 f:FA
 t:FA
 p:FA
 rs:Int
 l:FA
 c:FA
 nu:Int
 co:Int
 at_:Int
 b:FA
 o:FA
 i:FA
 q:FA
def B2.cells(v:B2):Array J:=#[Z v.r.a v.r.n v.r.c,Z v.k.a v.k.n v.k.c,Z v.f.a v.f.n v.f.c,Z v.t.a v.t.n v.t.c,Z v.p.a v.p.n v.p.c,v.rs,Z v.l.a v.l.n v.l.c,Z v.c.a v.c.n v.c.c,v.nu,v.co,v.at_,Z v.b.a v.b.n v.b.c,Z v.o.a v.o.n v.o.c,Z v.i.a v.i.n v.i.c,Z v.q.a v.q.n v.q.c]
structure Px(w u:Y)(v:B2)(hd:Int)(x y:FA):Prop where
 body:AA u w v.cells 164
 loop:AA u ((w:Nat)+1) #[hd,Z x.a x.n x.c,Z y.a y.n y.c] 92
 ik:AA u ((w:Nat)+1+1) #[iZ 0,iZ 0,iZ 0,Ag .u32 0] 96
 ej:Ah w w u
theorem Px.a7{w u c:Y}{v:B2}{b:Int}{x y:FA}(h:Px w u v b x y)(a:Ah u u c):Px w c v b x y:=⟨h.body.a7 a,h.loop.a7 a,h.ik.a7 a,Ar h.ej lR a⟩
theorem Lv(v:B2)(x y:FA)(ts:List MT)(F:List (MB×J))(h:Nat)(m:MB)(w:Y)(hn:F.length<=1048576)(hb:Rd w 3 (Z v.b.a v.b.n v.b.c) F (Ad B4 F))(hm:(F.map Prod.fst)[h]?=K m)(aj:ts.length<=1048576)(ht:Rd w 4 (Z v.t.a v.t.n v.t.c) ts (Ad MT.cells ts)):
 Ai Ap 146 #[Am v.cells,Am #[h,Z x.a x.n x.c,Z y.a y.n y.c]] w λe w'=>(∃t b,e=Al (Ao #[Am #[iZ t.func,iZ t.head,iZ t.hQ,Ag .u32 t.init],An b])/\(b=true->Cj ts v.nu m.gZ=K t)/\(b=false->Cj ts v.nu m.gZ=M))/\Ah w w w':=by
 have E:=Av (d5 hn (d5 hb hm));obtain⟨a1,c1,G⟩:=ht.bW;simp only[lB]at G;have HT:=Av ht;have HN:=Av G.2.1.symm;rw[HN]at aj HT;clear hn hb hm ht G a1 c1;have N:=Fs w v.cells #[h,Z x.a x.n x.c,Z y.a y.n y.c] #[iZ 0,iZ 0,iZ 0,Ag .u32 0] 164 92 96;have E1:Ae (Px w (Ac (Ac (Ac w (Ak v.cells 164)) (Ak #[h,Z x.a x.n x.c,Z y.a y.n y.c] 92)) (Ak #[iZ 0,iZ 0,iZ 0,Ag .u32 0] 96)) v h x y):=⟨N.1,N.2.1,N.2.2.1,N.2.2.2⟩;clear N;go_enter func146,ntmps146;go_upto_region 1 with fail
 refine Ax (λu=>Ae (Px w u v h x y)) E1 ?_;rintro U A;clear E1;have W:=A.body.cell 3;simp only[B2.cells]at W;go_wp2;go_loopw [13] (λi wr=>∃k:Nat,k<=v.t.n/\i=iZ k/\Ae (∀j c,j<k->ts[j]?=K c->¬(c.func=v.nu/\c.head=m.gZ))/\Ae (Px w wr v h x y)) (λi _=>v.t.n-(intOf i).toNat)
 case atStart=>exact⟨0,oM,rfl, λj c D=>oM,A⟩
 clear W A;obtain⟨k,hk,rfl,Q,A⟩:=hrel;by_cases ah:k<v.t.n
 . obtain⟨⟨fu,hd,co,V⟩,H⟩:∃z,ts[k]?=K z:=⟨_,an (by rw[HN];exact ah)⟩;rcases HT.2 with⟨e0,_⟩|⟨b,o,c,G,O⟩
   . omega
   simp only[lB,mB]at G;obtain⟨e2,e3⟩:=G;have I:=Rd.elem MT.dr O k _ H 0 _ rfl;have R:=Rd.elem MT.dr O k _ H 1 _ rfl;have S:=Rd.elem MT.dr O k _ H 2 _ rfl;have T:=Rd.elem MT.dr O k _ H 3 _ rfl;rw[<-A.ej.cell (g8 I),lJ]at I;rw[<-A.ej.cell (g8 R)]at R;rw[<-A.ej.cell (g8 S)]at S;rw[<-A.ej.cell (g8 T)]at T;simp only[]at I R S T;have HX:=Av H;clear O H e3;have nb:¬b=wr.heap.size:=mR (g8 I);have mb:b<wr.heap.size:=g8 I;(go_upto_region 4 with fail);refine Ax (λu=>Ae (Px w u v h x y/\AA u wr #[fu,hd,co,Ag .u32 V] 96)) ⟨A.a7 (Aq _ _),AA.new _ _ _⟩ ?_
   rintro s g;have inst:=AC.some s;(have p0:= λd:AC s=>AC.cell (g.1.body.cell 0) d);(have p1:= λd:AC s=>AC.cell (g.1.body.cell 1) d);(have p2:= λd:AC s=>AC.cell (g.1.body.cell 2) d);(have W:= λd:AC s=>AC.cell (g.1.body.cell 3) d);(have p4:= λd:AC s=>AC.cell (g.1.body.cell 4) d);(have p5:= λd:AC s=>AC.cell (g.1.body.cell 5) d);(have p6:= λd:AC s=>AC.cell (g.1.body.cell 6) d);(have p7:= λd:AC s=>AC.cell (g.1.body.cell 7) d);(have p8:= λd:AC s=>AC.cell (g.1.body.cell 8) d);(have p9:= λd:AC s=>AC.cell (g.1.body.cell 9) d);(have am:= λd:AC s=>AC.cell (g.1.body.cell 10) d);(have ao:= λd:AC s=>AC.cell (g.1.body.cell 11) d);(have aq:= λd:AC s=>AC.cell (g.1.body.cell 12) d);(have au:= λd:AC s=>AC.cell (g.1.body.cell 13) d);(have aw:= λd:AC s=>AC.cell (g.1.body.cell 14) d);simp only[B2.cells]at p0 p1 p2 W p4 p5 p6 p7 p8 p9 am ao aq au aw;obtain⟨l0,l1,l2⟩:=B9 g.1.loop;(have L0:= λd:AC s=>AC.cell l0 d);(have L1:= λd:AC s=>AC.cell l1 d);(have L2:= λd:AC s=>AC.cell l2 d);(have C0:= λd:AC s=>AC.cell (g.2.cell 0) d);(have C1:= λd:AC s=>AC.cell (g.2.cell 1) d);(have C2:= λd:AC s=>AC.cell (g.2.cell 2) d);(have C3:= λd:AC s=>AC.cell (g.2.cell 3) d);clear I R S T nb mb A l0 l1 l2 e2;by_cases X:fu=v.nu;case neg=>
    (have aE:(fu==v.nu)=false:=by simp[X]);have ae:Ae (∀j c,j<k+1->ts[j]?=K c->¬(c.func=v.nu/\c.head=m.gZ)):= λj c D C=>by
     by_cases e:j=k
     . subst e;rw[HX]at C;(cases C);exact λe=>X e.1
     exact Q.o j c oM C
    refine AN kR kR ?_;(repeat(go_big_quiet_step (fail)));refine wpQuiet_nil ?_;rintro L ⟨d,rfl⟩;go_wp2;go_roundw;(case rel=>exact⟨k+1,oM,by go_num,ae,g.1.a7 d.h⟩);exact oI
   case pos=>
    by_cases q2:hd=m.gZ;case neg=>
     (have aF:(hd==m.gZ)=false:=by simp[q2]);have ae:Ae (∀j c,j<k+1->ts[j]?=K c->¬(c.func=v.nu/\c.head=m.gZ)):= λj c D C=>by
      by_cases e:j=k
      . subst e;rw[HX]at C;(cases C);exact λe=>q2 e.2
      exact Q.o j c oM C
     subst X;refine AN kR kR ?_;(repeat(go_big_quiet_step ((first|(go_at_call 93;rename_i d;exact(EJ (Z v.r.a v.r.n v.r.c) (Z v.k.a v.k.n v.k.c) (Z v.f.a v.f.n v.f.c) (Z v.t.a v.t.n v.t.c) (Z v.p.a v.p.n v.p.c) v.rs (Z v.l.a v.l.n v.l.c) (Z v.c.a v.c.n v.c.c) v.nu v.co v.at_ (Z v.b.a v.b.n v.b.c) (Z v.o.a v.o.n v.o.c) (Z v.i.a v.i.n v.i.c) (Z v.q.a v.q.n v.q.c) (Z x.a x.n x.c) (Z y.a y.n y.c) F h m d.u E.1 (E.2.1.a7 (Ar g.1.ej lR d.h) lR) E.2.2).mono λe L P=>⟨P.1,⟨⟨L,Ar d.h lR P.2⟩,rfl⟩⟩)))));refine wpQuiet_nil ?_;rintro L ⟨d,rfl⟩;go_wp2;go_roundw;(case rel=>exact⟨k+1,oM,by go_num,ae,g.1.a7 d.h⟩);exact oI
    case pos=>subst X q2;(have HS:Ae (Cj ts v.nu m.gZ=K ⟨v.nu,m.gZ,co,V⟩):=Kx HX ⟨rfl,rfl⟩ λj c D C=>Q.o j c D C);refine AN kR kR ?_;(repeat(go_big_quiet_step ((first|(go_at_call 93;rename_i d;exact(EJ (Z v.r.a v.r.n v.r.c) (Z v.k.a v.k.n v.k.c) (Z v.f.a v.f.n v.f.c) (Z v.t.a v.t.n v.t.c) (Z v.p.a v.p.n v.p.c) v.rs (Z v.l.a v.l.n v.l.c) (Z v.c.a v.c.n v.c.c) v.nu v.co v.at_ (Z v.b.a v.b.n v.b.c) (Z v.o.a v.o.n v.o.c) (Z v.i.a v.i.n v.i.c) (Z v.q.a v.q.n v.q.c) (Z x.a x.n x.c) (Z y.a y.n y.c) F h m d.u E.1 (E.2.1.a7 (Ar g.1.ej lR d.h) lR) E.2.2).mono λe L P=>⟨P.1,⟨⟨L,Ar d.h lR P.2⟩,rfl⟩⟩)))));refine wpQuiet_nil ?_;rintro L ⟨d,rfl⟩;have d0:=C0 d;have d1:=C1 d;have d2:=C2 d;have d3:=C3 d;have B:Ae (Px w d.u v h x y):=g.1.a7 d.h;have r0:=B.ik.cell 0;have r1:=B.ik.cell 1;have r2:=B.ik.cell 2;have r3:=B.ik.cell 3;have f0:=B.ik.frozen 0;have f1:=B.ik.frozen 1;have f2:=B.ik.frozen 2;have f3:=B.ik.frozen 3;generalize d.u=u5 at*;go_wp2;exact lO (v:=Ao #[Am #[v.nu,m.gZ,co,Ag .u32 V],true]) (by simp[results,results146,go_sem,r0,r1,r2,r3]) rfl ⟨⟨⟨v.nu,m.gZ,co,V⟩,true,rfl, λ_=>HS.o, λe=>(by cases e)⟩,((((B.ej.setCell oS _).setCell oS _).setCell oS _).setCell oS _)⟩
 have aA:k=v.t.n:=oM;have r0:=A.ik.cell 0;have r1:=A.ik.cell 1;have r2:=A.ik.cell 2;have r3:=A.ik.cell 3;have f0:=A.ik.frozen 0;have f1:=A.ik.frozen 1;have f2:=A.ik.frozen 2;have f3:=A.ik.frozen 3;go_wp2;exact lO (v:=Ao #[Am #[iZ 0,iZ 0,iZ 0,Ag .u32 0],false]) (by simp[results,results146,go_sem,r0,r1,r2,r3]) rfl ⟨⟨⟨0,0,0,0⟩,false,rfl, λe=>(by cases e), λ_=>Kw λj c D=>Q.o j c (by have:=(i8.1 D).1;rw[HN]at this;omega) D⟩,((((A.ej.setCell oS _).setCell oS _).setCell oS _).setCell oS _)⟩
structure Gp(w u:Y)(G:Nat)(fc fa:Int)(vb vo vi vl vI vC:J)(bad:Bool)(I:List Nat)(C:List Int):Prop where
 ie:AA u G #[fc,fa,vb,vo,vi,vl,vI,vC,bad] 146
 lo: ↑w<=G
 iy:Ab u w 2 1 vI I (nv I)
 cost:Ab u w 2 1 vC C (Ad As C)
 ne:∀b,vI.ownBlock=K b->vC.ownBlock=K b->False
 ej:Ah w w u
 cb:∀y∈C,EP y
section
variable {w u u':Y} {G:Nat} {fc fa:Int} {vb vo vi vl vI vC:J} {bad:Bool} {I:List Nat} {C:List Int}
theorem Gp.a7(h:Gp w u G fc fa vb vo vi vl vI vC bad I C)(a:Ah u u u'):Gp w u' G fc fa vb vo vi vl vI vC bad I C:={h with ie:=h.ie.a7 a,iy:=Aw h.iy a lR,cost:=Aw h.cost a lR,ej:=Ar h.ej lR a}
theorem Gp.iC(h:Gp w u G fc fa vb vo vi vl vI vC bad I C):Gp w (Aa u ⟨G,8,M⟩ true) G fc fa vb vo vi vl vI vC true I C:={h with ie:=by have:=h.ie.set 8 true;simpa using this,iy:=lI h.iy (a:=⟨G,8,M⟩) (λq=>Bt h.iy h.ie dC _ q rfl) _,cost:=lI h.cost (a:=⟨G,8,M⟩) (λq=>Bt h.cost h.ie dC _ q rfl) _,ej:=h.ej.setCell h.lo _}
theorem Gp.cells(h:Gp w u G fc fa vb vo vi vl vI vC bad I C):u ⟨G,6,M⟩=K vI/\u ⟨G,7,M⟩=K vC/\u ⟨G,8,M⟩=K ↑bad/\∀i,u.frozen? ⟨G,i,M⟩=false:=⟨by rw[h.ie.cell];rfl,by rw[h.ie.cell];rfl,by rw[h.ie.cell];rfl,h.ie.frozen⟩
theorem Fh{B k n:Nat}{o:Option Nat}(h:Ab u B e k s n xs)(i:u.grownBy u' o)(j:∀b,s.ownBlock=K b->K b≠o):Ab u' B e k s n xs:=by
 refine⟨h.1,?_⟩;rcases h.2 with h|⟨g,cap,d,a,f,c,l⟩
 . exact .inl h
 refine .inr ⟨g,cap,d,a,f,?_,l⟩;rw[i.block g (lK.1 c).1 (j g (by rw[a];rfl))];exact c
theorem Lb{B k n b:Nat}(h:Ab u B e k s n xs)(a:s.ownBlock=K b):b<u.heap.size:=(h.lt b a).2
theorem Gp.ky(h:Gp w u G fc fa vb vo vi vl vI vC bad I C)(b:Nat)(V:J)(k:Ab u' w.heap.size 2 1 V (I.length+1) (nv I++[iZ (b:Int)]))(f:u.grownBy u' vI.ownBlock)(l:V.ownBlock=vI.ownBlock\/V.ownBlock=K u.heap.size):Gp w (Aa u' ⟨G,6,M⟩ V) G fc fa vb vo vi vl V vC bad (I++[b]) C/\u'.cell? ⟨G,6,M⟩=K vI/\u'.frozen? ⟨G,6,M⟩=false:=by
 have c:AA u' G _ _:=h.ie.grown f h.iy dC;have i:Ab u' w.heap.size 2 1 vC C.length (Ad As C):=Fh h.cost f (λb m q=>h.ne b q.symm m);refine⟨⟨by have:=c.set 6 V;simpa using this,h.lo,?_,lI i (a:=⟨G,6,M⟩) (λq=>Bt i c dC _ q rfl) _, λb d g=> ?_,((h.ej.grown f h.ej.size (λj n=>(h.iy.lt j n).1)).setCell h.lo _),h.cb⟩,by rw[c.cell];rfl,c.frozen 6⟩
 . have:=lI k (a:=⟨G,6,M⟩) (λq=>Bt k c dC _ q rfl) V;rw[lG,lL,FQ];exact this
 rcases l with e|e
 . exact h.ne b (e▸d) g
 rw[e]at d;have:=Lb h.cost g;simp only[lH]at d;omega
theorem Gp.jw(h:Gp w u G fc fa vb vo vi vl vI vC bad I C){c:Int}(p:EP c)(V:J)(l:Ab u' w.heap.size 2 1 V (C.length+1) (Ad As C++[iZ c]))(g:u.grownBy u' vC.ownBlock)(m:V.ownBlock=vC.ownBlock\/V.ownBlock=K u.heap.size):Gp w (Aa u' ⟨G,7,M⟩ V) G fc fa vb vo vi vl vI V bad I (C++[c])/\u'.cell? ⟨G,7,M⟩=K vC/\u'.frozen? ⟨G,7,M⟩=false:=by
 have d:AA u' G _ _:=h.ie.grown g h.cost dC;have k:Ab u' w.heap.size 2 1 vI I.length (nv I):=Fh h.iy g (λb n q=>h.ne b n q.symm);refine⟨⟨by have:=d.set 7 V;simpa using this,h.lo,lI k (a:=⟨G,7,M⟩) (λq=>Bt k d dC _ q rfl) _,?_, λb i f=> ?_,((h.ej.grown g h.ej.size (λj r=>(h.cost.lt j r).1)).setCell h.lo _), λy s=> ?_⟩,by rw[d.cell];rfl,d.frozen 7⟩
 . have:=lI l (a:=⟨G,7,M⟩) (λq=>Bt l d dC _ q rfl) V;rw[lG,lL,mH];exact this
 . rcases m with e|e
   . exact h.ne b i (e▸f)
   rw[e]at f;have:=Lb h.iy i;simp only[lH]at f;omega
 rcases lT.1 s with e|e
 . exact h.cb y e
 rw[mz.1 e];exact p
theorem Gp.gr{n gb ob cb g j co:Nat}(h:Gp w u G fc fa (sO gb ob n cb) (sO g j n co) vi vl vI vC bad (List.range n) C)(i: ↑C=n)(p:0<n):∃a b c cc,Gr w u G n ⟨fc,fa,gb,ob,cb,g,j,co,vi,vl,a,b,c,cc⟩ bad (List.range n) C:=by
 have d:=h.iy;have f:=h.cost;rw[m8]at d;rw[i]at f;rcases Bo d with⟨_,e⟩|⟨a,b,k⟩
 . omega
 rcases Bo f with⟨_,e⟩|⟨c,cc,l⟩
 . omega
 subst k l;exact⟨a,b,c,cc,h.ie,h.lo,d,f, λe=>h.ne a rfl (by simp only[]at e;rw[e];rfl),h.ej,m8, λy m=>nE.1 m,i,h.cb⟩
end
end Go.Proofs.YtadcneiiokbofaaGreat
