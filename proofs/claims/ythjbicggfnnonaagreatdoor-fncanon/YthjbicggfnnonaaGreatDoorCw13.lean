import Derived.Test.YthjbicggfnnonaaGreatDoorCw11
namespace Go.Proofs.YthjbicggfnnonaaGreatDoor
open Go.ChangeShapes Go.WideShapes Go.ChangeAt Go.RowKit
set_option linter.unusedVariables false
set_option maxHeartbeats 4000000
set_option maxRecDepth 100000
variable {w u a e f:World}{b n base g i x d c h y:Nat}{V V' s:Value}{R L B l K:List Nat}{P Q:Nat->Bool}{t:TypeId}
def Jp(n g:Nat):Value:=sG g n n
theorem Uw:(Tryz.prog.info? 206).map (fun i=>(i.zero,i.size,i.bytes))=some (some sN,1,24):=kR
structure DM(w u:World)(n:Nat)(V:Value)(R:List Nat)(P:Nat->Nat->Bool):Prop where
 o:u.ownsRow w.heap.size 206 1 V R.length (R.map (Jp n))
 rows:∀i g,R[i]?=some g->Gv u w.heap.size g n (P i)
 nodup:R.Nodup
 aC:Below w.heap.size w u
theorem DM.aa{b:World}{P:Nat->Nat->Bool}(h:DM w u n V R P)(a:Below u.heap.size u b):DM w b n V R P:=⟨Ai h.o a lR,fun i g c=>(h.rows i g c).aa a,h.nodup,Ac h.aC lR a⟩
theorem Gv.lt(h:Gv w base g n P):g<w.heap.size:=by obtain⟨_,a,h1⟩:=AQ h;exact(kN.1 h1).1
theorem Gv.other{x:Value}(h:Gv w base g n P)(c:g≠b):Gv (w.setCell ⟨b,i,none⟩ x) base g n P:=i9 h (a:=⟨b,i,none⟩) (fun e=>c (by simpa[Value.ownBlock]using e)) x
theorem DM.set{P Q:Nat->Nat->Bool}(h:DM w u n V R P){x:Bool}(c:R[b]?=some g)(r:∀j,j<n->Q b j=if j=d then x else P b j)(p:∀i,i≠b->Q i=P i):DM w (u.setCell ⟨g,d,none⟩ (.bool x)) n V R Q:=by
 have f:=h.rows b g c;refine⟨CA h.o f dC d _,fun i m a=> ?_,h.nodup,h.aC.setCell (AQ f).1 _⟩;by_cases e:i=b
 . subst e;rw[c]at a;(cases a);exact f.set d x r
 rw[p i e];refine(h.rows i m a).other fun q=>e ?_
 subst q;obtain⟨s,k⟩:=d7.1 a;obtain⟨t,l⟩:=d7.1 c;exact(List.getElem_inj h.nodup).1 (k.trans l.symm)
theorem DM.add{d k:World}{P:Nat->Nat->Bool}(h:DM w u n V R P)(r:∀i,i=R.length->P i=fun _=>false)(q:d.ownsRow u.heap.size 4 1 (sG u.heap.size n n) n (bv (fun _=>false) n))(t:Below u.heap.size u d)(y:k.ownsRow w.heap.size 206 1 V' (R.length+1) (R.map (Jp n)++[Jp n u.heap.size]))(j:(d.alloc (.cells #[Jp n u.heap.size] 206)).grownBy k V.ownBlock):DM w k n V' (R++[u.heap.size]) P:=by
 have l:=Aa d (.cells #[Jp n u.heap.size] 206);have f:Below u.heap.size u (d.alloc (.cells #[Jp n u.heap.size] 206)):=Ac t lR l;have p:=Ai h.o f lR;have z:Gv (d.alloc (.cells #[Jp n u.heap.size] 206)) w.heap.size u.heap.size n (fun _=>false):=Db (Ai q l lR) h.aC.size;refine⟨by rw[f6,jY,lW];exact y,fun i g b=> ?_,?_,(Ac h.aC lR f).grown j (jX h.aC.size f.size) (fun i b=>(h.o.lt i b).1)⟩
 . by_cases e:i<R.length
   . rw[lK e]at b;exact CU ((h.rows i g b).aa f) j p dC
   have x:=(d7.1 b).1;simp only[f6,jY]at x;have v:i=R.length:=oM;rw[ky oM]at b;subst v;simp only[nP,i5,i4]at b;subst b;rw[r _ rfl];exact CU z j p dC
 refine mu.2 ⟨h.nodup,sP,fun a s c m e=> ?_⟩;simp only[ka,kr,ly]at m;subst m;obtain⟨i,b⟩:=lY s;have:=(h.rows i a b).lt;omega
theorem JJ(U:World)(x:Value)(t:TypeId):∀j u,[x][j]?=some u->(U.alloc (.cells #[x] t)).cell? ((⟨U.heap.size,0,none⟩:Addr).add j)=some u:=fun j u a=>by rw[DF,ki,(Aw.new U #[x] t).cell j];simpa using a
def G8(w:World)(g n:Nat)(D:Nat->Nat->Bool):Prop:=∀b,b<n->∃r,w.cell? ⟨g,b,none⟩=some (sG r n n)/\∀d,d<n->w.cell? ⟨r,d,none⟩=some (.bool (D b d))
theorem G8.aa{c:World}{D:Nat->Nat->Bool}(h:G8 w g n D)(a:Below w.heap.size w c):G8 c g n D:=fun b e=>by obtain⟨r,h1,h2⟩:=h b e;exact⟨r,Af a h1,fun d f=>Af a (h2 d f)⟩
theorem DM.cell{m:Nat}{P:Nat->Nat->Bool}(h:DM w u n (sG g m c) R P)(d:R.length=m)(a:b<m):∃r,R[b]?=some r/\u.cell? ⟨g,b,none⟩=some (sG r n n):=by subst d;have:=h.o.cellAt b oM;rw[kh,an a]at this;exact⟨_,an a,this⟩
theorem DM.mat{P:Nat->Nat->Bool}(h:DM w u n (sG g n c) R P)(e:R.length=n):G8 u g n P:=fun b f=>by obtain⟨r,h1,h2⟩:=h.cell e (b:=b) oM;exact⟨r,h2,fun d a=>(h.rows b r h1).cell a⟩
theorem Ph(g o c n:Nat)(E:Nat->List Nat)(D:Nat->Nat->Bool)(w:World)(hn:n<=1048576)(h0:0<n)(hD:∀d b,D d b=true↔Gc E d b)(hE:∀b,b<n->∀x∈E b,x<n)(aq:∀b,(E b).length<=2)(h:Jx w g o n E):
 Calls Tryz.prog 136 #[sO g o n c] w fun e T=>∃f l,e=.returned (sG f n l)/\G8 T f n (fun b d=>D d b)/\Below w.heap.size w T/\w.heap.size<=f/\(∀b r,b<n->T.cell? ⟨f,b,none⟩=some (sG r n n)->w.heap.size<=r):=by
 obtain⟨j0,hj,aJ,aL,aM⟩:=kS D8;obtain⟨k0,p,aG,aH,aI⟩:=kS Uw;have H:Hid (Jx w g o n E/\(∀b,b<n->∀x∈E b,x<n)/\(∀b,(E b).length<=2)/\(∀d b,D d b=true↔Gc E d b)):=⟨h,hE,aq,hD⟩
 clear h hE aq hD;have Z:Hid (DM w (w.alloc (.cells #[] 206)) n (sG w.heap.size 0 0) [] (fun _ _=>false)):=by refine⟨?_,fun i g m=>by simp at m,List.nodup_nil,Aa _ _⟩;exact⟨rfl,.inr ⟨w.heap.size,0,#[],rfl,Nat.le_refl _,Aw.new w #[] 206,Nat.le_refl _,lr _,rfl,rfl⟩⟩
 go_enter Tryz.func136,Tryz.ntmps136;go_wp2;go_loopw [4,5] (fun V i wr=>∃(R:List Nat) (f l:Nat),V=sG f R.length l/\i=iZ (R.length:Int)/\R.length<=n/\Hid (DM w wr n V R (fun _ _=>false))) (fun _ i _=>n-(intOf i).toNat)
 case atStart=>exact⟨[],_,_,rfl,rfl,sP,Z⟩
 clear Z;obtain⟨R,f,l,rfl,rfl,hR,a⟩:=hrel;by_cases K:R.length<n
 . have aE:(R.length:Int)<(n:Int):=oM;have aQ:=a.o.aC.size;go_wp2_with (first
    |(at_make;refine lQ _ rfl _ _ 206 rfl wr.heap.size 4 j0 (.bool false) 1 Tryz.underlying206 hj aJ aL .i64 .i64 _ _ n rfl rfl rfl rfl (by rw[aM];omega) oX lR ?_;intro z M ae;rw[DT,Hz]at M;have G:Below wr.heap.size wr z:=(kV _ _).grown ae lR (fun k p=>by cases p);have aj:(z.alloc (.cells #[Jp n wr.heap.size] 206)).ownsRow w.heap.size 206 1 (sG f R.length l) R.length (R.map (Jp n)):=Ai a.o.o (Ac G lR (Aa _ _)) lR;have ao:w.heap.size<=(z.alloc (.cells #[Jp n wr.heap.size] 206)).heap.size:=by have h1:=G.size;have h2:=(Aa z (.cells #[Jp n wr.heap.size] 206)).size;omega)
    |(at_builtin;refine wpList_append_lies _ rfl _ _ 227 rfl w.heap.size 206 k0 sN 1 24 Tryz.underlying227 p aG aH aI rfl dC _ R.length (R.map (Jp n)) rfl aj ⟨z.heap.size,0,none⟩ 1 1 [Jp n wr.heap.size] rfl rfl (JJ z _ _) (fun u hu=>by simp at hu;subst hu;rfl) oM (by simp[maxLen];omega) oM ao _ rfl ?_;intro g5 a6 w5 am ah aA aD;have au:Hid (DM w w5 n (sG g5 (R.length+1) a6) (R++[wr.heap.size]) (fun _ _=>false)):=a.o.add (fun _ _=>rfl) M G am ah;clear M ae am ah aA aD G aj ao)
    |go_in)
   go_roundw;(case rel=>exact⟨R++[wr.heap.size],g5,a6,by rw[f6,jY],by rw[f6,jY];go_num,by rw[f6,jY];omega,au⟩);exact oI
 have C:R.length=n:=oM;have A:Hid (R.length=n):=C;rw[C]at a;rw[C];clear K hR C;have W:Hid (DM w wr n (sG f n l) R (fun i k=>decide (k<0)&&D k i)):=by
  have:(fun i k=>decide (k<0)&&D k i)=(fun(_ _:Nat)=>false):=by funext i k;simp
  show DM w wr n _ R _;rw[this];exact a.o
 clear a;go_wp2;go_loopw [6] (fun i wr=>∃d:Nat,d<=n/\i=iZ d/\Hid (DM w wr n (sG f n l) R (fun i k=>decide (k<d)&&D k i))) (fun i _=>n-(intOf i).toNat)
 case atStart=>exact⟨0,oM,rfl,W⟩
 clear W;obtain⟨d,hd,rfl,a⟩:=hrel;by_cases K:d<n
 . have aE:(d:Int)<(n:Int):=oM;go_wp2_with fail;refine(Pm g o c n 0 (d:Int) E _ hn H.o.2.1 H.o.2.2.1 h0 (H.o.1.aa a.o.aC)).mono ?_;rintro e S ⟨t,P,rfl,J,a8,b2⟩;have I:Hid (Gv S wr.heap.size t n P/\(∀x,x<n->(!P x)=D d x)/\wr.heap.size<=t):=by refine⟨J,fun x hx=> ?_,(AQ J).1⟩;rw[nG,H.o.2.2.2 d x];unfold Gc;have B:FK E (fun y=>(y:Int)≠(d:Int)) 0 x↔FK E (· ≠d) 0 x:=⟨fun q=>q.mono fun y O e=>O (by rw[e]),fun q=>q.mono fun y O e=>O oM⟩;rw[<-B,<-a8 x hx];simp
   (have X:Hid (DM w S n (sG f n l) R (fun i k=>(decide (k<d)||(decide (k=d)&&decide (i<0)))&&D k i)):=by (have B:(fun i k=>(decide (k<d)||(decide (k=d)&&decide (i<0)))&&D k i)=(fun i k=>decide (k<d)&&D k i):=by funext i k;simp);show DM w S n _ R _;rw[B];exact a.o.aa b2);have Y:Hid ((∀i r,R[i]?=some r->r<wr.heap.size)/\w.heap.size<=wr.heap.size):=⟨fun i r m=>(a.o.rows i r m).lt,a.o.aC.size⟩
   clear J a8 b2 a;go_wp2;go_loopw [8] (fun i wr=>∃b:Nat,b<=n/\i=iZ b/\Hid (DM w wr n (sG f n l) R (fun i k=>(decide (k<d)||(decide (k=d)&&decide (i<b)))&&D k i)/\Gv wr w.heap.size t n P)) (fun i _=>n-(intOf i).toNat)
   (case atStart=>exact⟨0,oM,rfl,X.o,Db I.o.1 Y.o.2⟩);clear X;obtain⟨b,F,rfl,a⟩:=hrel;by_cases L:b<n
   . have aP:(b:Int)<(n:Int):=oM;obtain⟨r,v,c0⟩:=a.o.1.cell A.o L;have c1:=a.o.2.cell L;have N:=a.o.1.rows b r v;have c2:=N.cell K;have z2:=N.frozen d;(have aF:t≠r:=by have:=Y.o.1 b r v;have:=I.o.2.2;omega);have s:Hid (DM w (wr.setCell ⟨r,d,none⟩ (.bool (!P b))) n (sG f n l) R (fun i k=>(decide (k<d)||(decide (k=d)&&decide (i<b+1)))&&D k i)/\Gv (wr.setCell ⟨r,d,none⟩ (.bool (!P b))) w.heap.size t n P):=by
      refine⟨a.o.1.set v (fun j hj=> ?_) (fun i m=> ?_),a.o.2.other aF⟩
      . by_cases e:j=d
        . subst e;simp[I.o.2.1 b L]
        simp[e]
      (funext k);have:decide (i<b+1)=decide (i<b):=oT;simp[this]
     clear v N;go_wp2;go_region;refine Bh (fun u=>Hid (DM w u n (sG f n l) R (fun i k=>(decide (k<d)||(decide (k=d)&&decide (i<b+1)))&&D k i)/\Gv u w.heap.size t n P)) ?_ ?_
     . exact⟨s.o.1.aa (Ae _),s.o.2.aa (Ae _)⟩
     intro U HU;go_wp2;go_roundw;(case rel=>exact⟨b+1,oM,by go_num,HU⟩);exact oI
   obtain rfl:b=n:=oM;have s:Hid (DM w wr b (sG f b l) R (fun i k=>decide (k<d+1)&&D k i)):=by
    refine⟨a.o.1.o,fun i r m=> ?_,a.o.1.nodup,a.o.1.aC⟩;have h1:=a.o.1.rows i r m;unfold Gv at h1⊢;rw[NB (Q:=fun k=>decide (k<d+1)&&D k i)]at h1
    . exact h1
    intro k p;(have aN:i<b:=by have:=(d7.1 m).1;rw[A.o]at this;exact this);(have B:(decide (k<d)||(decide (k=d)&&decide (i<b)))=decide (k<d+1):=by rw[nG];simp;omega);simp only[B]
   go_wp2;go_roundw;(case rel=>exact⟨d+1,oM,by go_num,s⟩);exact oI
 obtain rfl:d=n:=oM;have s:Hid (G8 wr f d (fun b k=>D k b)):=fun b F=>by obtain⟨r,h1,h2⟩:=a.o.mat A.o b F;refine⟨r,h1,fun k p=> ?_⟩;have:=h2 k p;simpa[p]using this
 have aw:Hid (wr.ownsRow w.heap.size 206 1 (sG f d l) d (R.map (Jp d))):=by have:=a.o.o;rw[A.o]at this;exact this
 go_wp2;go_ret;refine⟨f,l,rfl,s.o,a.o.aC,(AQ aw.o).1,fun b r F v=> ?_⟩;obtain⟨r',h1,h2⟩:=a.o.cell A.o (b:=b) F;rw[v]at h2;simp only[i4,ip,lF,lp]at h2;rw[h2];exact(AQ (a.o.rows b r' h1)).1
def Bk(a:List MF):Prop:=¬a.length=0/\a.length<=32/\(∀j,j<a.length->∀f,a[j]?=some f->Dh f)/\∀f,a[0]?=some f->OO f
theorem LC(s:Value)(a:List MF)(w:World)(hL:a.length<=1048576)(hs:∀f∈a,f.small)(h:Nq w s a):
 Calls Tryz.prog 45 #[s] w fun e w'=>Au e (Bk a)/\Below w.heap.size w w':=by
 obtain⟨xs,T,S,aj⟩:=h;have ao:xs.length=a.length:=by rw[<-T];simp
 have l:=Ag (f7 S (f7 T (f7 aj (f7 hs ao))));obtain⟨a1,c1,rfl⟩:=S.bW;generalize a6:a.length=n at hL l;have A:=Ag a6;by_cases F:n=0
 . subst F;(have y:Hid (¬Bk a):=fun e=>e.1 A.o);go_enter Tryz.func45,Tryz.ntmps45;go_wp2;go_ret;exact⟨.no y.o,kV _ _⟩
 have aA:((n:Int)==0)=false:=by simpa using F
 by_cases q1:32<n
 . (have y:Hid (¬Bk a):=fun e=>absurd e.2.1 (by rw[A.o];omega));have aq:(32:Int)<(n:Int):=oM;go_enter Tryz.func45,Tryz.ntmps45;go_wp2;go_ret;exact⟨.no y.o,kV _ _⟩
 have aq:¬(32:Int)<(n:Int):=oM;go_enter Tryz.func45,Tryz.ntmps45;go_wp2;go_loopw [15] (fun i wr=>∃k:Nat,k<=n/\i=iZ k/\Hid (∀j,j<k->∀f,a[j]?=some f->Dh f)/\Hid (Below w.heap.size w wr)) (fun i _=>n-(intOf i).toNat)
 case atStart=>exact⟨0,oM,rfl,fun j hj=>oM,kV _ _⟩
 obtain⟨k,hk,rfl,J,m⟩:=hrel;by_cases Q:k<n
 . obtain⟨⟨f,v⟩,q⟩:∃x,xs[k]?=some x:=⟨_,an (by rw[l.o.2.2.2.2];exact Q)⟩;have p:=CK l.o.2.1 q;have d:=Ag (f7 ((l.o.2.2.1 _ (d9 q)).aa m.o lR) (f7 (l.o.2.2.2.1 _ (d9 p)) p));rcases l.o.1.2 with⟨e0,_⟩|⟨b,o,c,p,z⟩
   . omega
   simp only[ip,kU]at p;obtain⟨rfl,rfl⟩:=p;have r:=Rd.elem Aj z k _ q 0 _ rfl;have t:=Rd.elem Aj z k _ q 1 _ rfl;have D:=Rd.elem Aj z k _ q 2 _ rfl;have E:=Rd.elem Aj z k _ q 3 _ rfl;rw[<-m.o.cell (d5 r),kD]at r;rw[<-m.o.cell (d5 t)]at t;rw[<-m.o.cell (d5 D)]at D;rw[<-m.o.cell (d5 E)]at E;simp only[]at r t D E;obtain⟨K,L,B⟩:=d.o.1.1.bW;obtain⟨al,cl,N⟩:=d.o.1.2.1.bW;obtain⟨Z,cc,M⟩:=d.o.1.2.2.bW;obtain⟨vp,vl,vc⟩:=v;simp only[]at B N M r t D E;subst B N M;have nb:¬b=wr.heap.size:=kg (d5 r);have mb:b<wr.heap.size:=d5 r;go_wp2_with fail;(have V:=fun W (hW:Below wr.heap.size wr W)=>LB ⟨.slice K f.params.length L,.slice al f.locals.length cl,.slice Z f.code.length cc⟩ f W d.o.2.1 (d.o.1.aa hW lR));refine(V _ (Aa _ _)).mono ?_;rintro e u ⟨⟨b0,rfl,O⟩,ah⟩;have H:Hid (Below w.heap.size w u):=Ac m.o lR (Ac (Aa _ _) lR ah);cases b0
   . (have y:Hid (¬Bk a):=fun e=>by have:=e.2.2.1 k (by rw[A.o];exact Q) f d.o.2.2;simp[this]at O);go_wp2;go_ret;exact⟨.no y.o,H.o⟩
   have X:Hid (Dh f):=O.1 rfl;go_wp2;go_roundw;(case rel=>exact⟨k+1,oM,by go_num,Dc d.o.2.2 X.o J.o,H⟩);exact oI
 have am:n=k:=oM;subst am;obtain⟨⟨f,v⟩,q⟩:∃x,xs[0]?=some x:=⟨_,an (by rw[l.o.2.2.2.2];omega)⟩;have p:=CK l.o.2.1 q;have d:=Ag (f7 ((l.o.2.2.1 _ (d9 q)).aa m.o lR) (f7 (l.o.2.2.2.1 _ (d9 p)) p));rcases l.o.1.2 with⟨e0,_⟩|⟨b,o,c,p,z⟩
 . omega
 simp only[ip,kU]at p;obtain⟨rfl,rfl⟩:=p;have r:=Rd.elem Aj z 0 _ q 0 _ rfl;have t:=Rd.elem Aj z 0 _ q 1 _ rfl;rw[<-m.o.cell (d5 r)]at r;simp only[Nat.zero_mul,kD]at r;rw[<-m.o.cell (d5 t),Nat.zero_mul,kD]at t;obtain⟨K,L,B⟩:=d.o.1.1.bW;obtain⟨vp,vl,vc⟩:=v;simp only[]at B r t;subst B;have I:Hid (Bk a↔OO f):=by show _↔_;refine⟨fun e=>e.2.2.2 f d.o.2.2,fun e=>⟨by rw[A.o];exact F,by rw[A.o];omega,by rw[A.o];exact J.o,fun g P=> ?_⟩⟩;rw[d.o.2.2]at P;exact(kH P)▸e
 have aw:=d.o.2.1.1;generalize a8:f.params.length=U at*;generalize ae:f.result=R at*;have C:=Ag (f7 a8 ae);have au:(0:Int)<(n:Int):=oM;by_cases G:U=0
 . subst G;(have Y:Hid ((R==0)=true↔Bk a):=by show _↔_;rw[I.o,beq_iff_eq];exact⟨fun e=>⟨C.o.1,C.o.2.trans e⟩,fun e=>C.o.2.symm.trans e.2⟩);go_wp2;go_ret;exact⟨.of Y.o,m.o⟩
 have aD:((U:Int)==0)=false:=by simpa using G
 have y:Hid (¬Bk a):=fun e=>G (C.o.1.symm.trans (I.o.1 e).1)
 go_wp2;go_ret;exact⟨.no y.o,m.o⟩
theorem Hn(B I L:Nat)(a:Option Addr)(c:Nat)(l:List Int)(n k:Nat)(w:World)(hn:n<=65535)(h:IF w B I L a c l k):
 Calls Tryz.prog 96 #[iZ (n:Int),.func (Fn.func 97) #[.pointer (some ⟨I,0,none⟩)] #[]] w (QB (A9 (Cz l 1) n) (fun Y f V=>(Ay V f).own Y w.heap.size) w B I L a c l k):=by
 obtain⟨W,P,S,T,U⟩:=kS Co;have z:=Ag ((Br.start h).nil 2 1);clear h;go_enter Tryz.func96,Tryz.ntmps96;go_wp2;go_loopw [5,7] (fun o i wr=>∃(j:Nat) (f:List Int) (m:Nat) (b:Option Addr) (d:Nat),o=.slice b f.length d/\i=iZ (j:Int)/\j<=n/\Hid (f.length=j/\A9 (Cz l 1) j k=some (f,m)/\Br w wr [Ay (.slice b f.length d) f] B I L a c l m)) (fun _ i _=>n-(intOf i).toNat)
 case atStart=>exact⟨0,[],k,none,0,rfl,rfl,oM,rfl,rfl,z.o⟩
 case round=>
  clear z;obtain⟨j,f,m,b,d,rfl,rfl,hj,g⟩:=hrel;have C:=Ag g.o.1;have a8:f.length<=65535:=by rw[C.o];omega
  by_cases ae:j<n
  . have ah:(j:Int)<(n:Int):=oM;go_wp2_with fail;refine(GR B I L a c l m wr g.o.2.2.dr.at_).mono ?_;rintro e q (⟨x,V,y,rfl,H,rfl,F⟩|⟨rfl,Q,O⟩);rotate_left
    . unfold BF;go_wp2;exact⟨rfl,.inr ⟨rfl,Dp (EE g.o.2.1 Q) oM,g.o.2.2.dr.gH.gP O⟩⟩
    have p:Hid (Br w (q.alloc (.cells #[iZ x] 2)) [Ay (.slice b f.length d) f] B I L a c l y):=(g.o.2.2.read F).aa (Aa _ _);have M:=Ag (Ez g.o.2.1 H);have D:Hid ((q.alloc (.cells #[iZ x] 2)).ownsRow w.heap.size 2 1 (.slice b f.length d) f.length (f.flatMap Ad)):=p.o.sep.own (Ay (.slice b f.length d) f) sP;have R:=p.o.size;clear H F g;go_wp2_with (at_builtin;refine wpList_append_own_at _ rfl _ _ 58 rfl w.heap.size 2 W (iZ 0) 1 8 Tryz.underlying58 P S T U rfl dC _ _ _ rfl D.o ⟨q.heap.size,0,none⟩ 1 1 [iZ x] rfl rfl (DL q [iZ x] 2) (by intro u J;simp at J;subst J;rfl) oX oM R ?_;intro V' X v G _ E;obtain⟨r,s,N⟩:=AO v;subst N;have K:Hid (Br w X [Ay (.slice r (f.length+1) s) (f++[x])] B I L a c l y):=Br.en (A:=[]) p.o (Ay (.slice r (f.length+1) s) (f++[x])) (by simpa[Ax.own,Ay,Ad]using v) G E;clear v G E p D);go_roundw;(case rel=>have t:(f++[x]).length=f.length+1:=sP;refine⟨j+1,f++[x],y,r,s,by rw[t],by go_num,oM,by rw[t,C.o],M.o,?_⟩;rw[t];exact K.o);case measure=>exact oI
  have a6:n=j:=oM;have Z:¬(j:Int)<(n:Int):=oM;go_wp2;go_ret;exact .inl ⟨f,_,m,rfl,g.o.2.1,g.o.2.2.sep.own (Ay (.slice b f.length d) f) sP,g.o.2.2.dr⟩
theorem LG(B I L:Nat)(a:Option Addr)(c:Nat)(l:List Int)(n k:Nat)(w:World)(hn:n<=65535)(h:IF w B I L a c l k):
 Calls Tryz.prog 98 #[iZ (n:Int),.func (Fn.func 99) #[.pointer (some ⟨I,0,none⟩)] #[]] w (QB (A9 (FY l) n) (fun Y f V=>(A3 V f).own Y w.heap.size) w B I L a c l k):=by
 obtain⟨W,P,S,T,U⟩:=kS Me;have z:=Ag ((Br.start h).nil 96 4);clear h;go_enter Tryz.func98,Tryz.ntmps98;go_wp2;go_loopw [5,7] (fun o i wr=>∃(j:Nat) (f:List MI) (m:Nat) (b:Option Addr) (d:Nat),o=.slice b f.length d/\i=iZ (j:Int)/\j<=n/\Hid (f.length=j/\A9 (FY l) j k=some (f,m)/\Br w wr [A3 (.slice b f.length d) f] B I L a c l m)) (fun _ i _=>n-(intOf i).toNat)
 case atStart=>exact⟨0,[],k,none,0,rfl,rfl,oM,rfl,rfl,z.o⟩
 case round=>
  clear z;obtain⟨j,f,m,b,d,rfl,rfl,hj,g⟩:=hrel;have C:=Ag g.o.1;have a8:f.length<=65535:=by rw[C.o];omega
  by_cases ae:j<n
  . have ah:(j:Int)<(n:Int):=oM;go_wp2_with fail;refine(Kg B I L a c l m wr g.o.2.2.dr.at_).mono ?_;rintro e q (⟨x,V,y,rfl,H,rfl,F⟩|⟨rfl,Q,O⟩);rotate_left
    . unfold BF;go_wp2;exact⟨rfl,.inr ⟨rfl,Dp (EE g.o.2.1 Q) oM,g.o.2.2.dr.gH.gP O⟩⟩
    have p:Hid (Br w (q.alloc (.cells #[iZ x.op,iZ x.a,iZ x.b,iZ x.c] 96)) [A3 (.slice b f.length d) f] B I L a c l y):=(g.o.2.2.read F).aa (Aa _ _);have M:=Ag (Ez g.o.2.1 H);have D:Hid ((q.alloc (.cells #[iZ x.op,iZ x.a,iZ x.b,iZ x.c] 96)).ownsRow w.heap.size 96 4 (.slice b f.length d) f.length (f.flatMap MI.cells)):=p.o.sep.own (A3 (.slice b f.length d) f) sP;have R:=p.o.size;clear H F g;go_wp2_with (at_builtin;refine wpList_append_own_at _ rfl _ _ 66 rfl w.heap.size 96 W (.agg #[iZ 0,iZ 0,iZ 0,iZ 0]) 4 32 Tryz.underlying66 P S T U rfl dC _ _ _ rfl D.o ⟨q.heap.size,0,none⟩ 1 1 [iZ x.op,iZ x.a,iZ x.b,iZ x.c] rfl rfl (DL q [iZ x.op,iZ x.a,iZ x.b,iZ x.c] 96) (by intro u J;simp at J;rcases J with rfl|rfl|rfl|rfl<;>rfl) oX oM R ?_;intro V' X v G _ E;obtain⟨r,s,N⟩:=AO v;subst N;have K:Hid (Br w X [A3 (.slice r (f.length+1) s) (f++[x])] B I L a c l y):=Br.en (A:=[]) p.o (A3 (.slice r (f.length+1) s) (f++[x])) (by simpa[Ax.own,A3,MI.cells]using v) G E;clear v G E p D);go_roundw;(case rel=>have t:(f++[x]).length=f.length+1:=sP;refine⟨j+1,f++[x],y,r,s,by rw[t],by go_num,oM,by rw[t,C.o],M.o,?_⟩;rw[t];exact K.o);case measure=>exact oI
  have a6:n=j:=oM;have Z:¬(j:Int)<(n:Int):=oM;go_wp2;go_ret;exact .inl ⟨f,_,m,rfl,g.o.2.1,g.o.2.2.sep.own (A3 (.slice b f.length d) f) sP,g.o.2.2.dr⟩
theorem LF(B I L:Nat)(a:Option Addr)(c:Nat)(l:List Int)(n k:Nat)(w:World)(hn:n<=65535)(h:IF w B I L a c l k):
 Calls Tryz.prog 60 #[iZ (n:Int),.func (Fn.func 61) #[.pointer (some ⟨I,0,none⟩)] #[]] w (QB (A9 (D6 l) n) (fun Y f V=>(Cd V f).own Y w.heap.size) w B I L a c l k):=by
 obtain⟨W,P,S,T,U⟩:=kS NX;have z:=Ag ((Br.start h).nil 63 2);clear h;go_enter Tryz.func60,Tryz.ntmps60;go_wp2;go_loopw [5,7] (fun o i wr=>∃(j:Nat) (f:List MC) (m:Nat) (b:Option Addr) (d:Nat),o=.slice b f.length d/\i=iZ (j:Int)/\j<=n/\Hid (f.length=j/\A9 (D6 l) j k=some (f,m)/\Br w wr [Cd (.slice b f.length d) f] B I L a c l m)) (fun _ i _=>n-(intOf i).toNat)
 case atStart=>exact⟨0,[],k,none,0,rfl,rfl,oM,rfl,rfl,z.o⟩
 case round=>
  clear z;obtain⟨j,f,m,b,d,rfl,rfl,hj,g⟩:=hrel;have C:=Ag g.o.1;have a8:f.length<=65535:=by rw[C.o];omega
  by_cases ae:j<n
  . have ah:(j:Int)<(n:Int):=oM;go_wp2_with fail;refine(MD B I L a c l m wr g.o.2.2.dr.at_).mono ?_;rintro e q (⟨x,V,y,rfl,H,rfl,F⟩|⟨rfl,Q,O⟩);rotate_left
    . unfold BF;go_wp2;exact⟨rfl,.inr ⟨rfl,Dp (EE g.o.2.1 Q) oM,g.o.2.2.dr.gH.gP O⟩⟩
    have p:Hid (Br w (q.alloc (.cells #[iZ x.type,.int .u32 x.word] 63)) [Cd (.slice b f.length d) f] B I L a c l y):=(g.o.2.2.read F).aa (Aa _ _);have M:=Ag (Ez g.o.2.1 H);have D:Hid ((q.alloc (.cells #[iZ x.type,.int .u32 x.word] 63)).ownsRow w.heap.size 63 2 (.slice b f.length d) f.length (f.flatMap MC.cells)):=p.o.sep.own (Cd (.slice b f.length d) f) sP;have R:=p.o.size;clear H F g;go_wp2_with (at_builtin;refine wpList_append_own_at _ rfl _ _ 25 rfl w.heap.size 63 W (.agg #[iZ 0,.int .u32 0]) 2 16 Tryz.underlying25 P S T U rfl dC _ _ _ rfl D.o ⟨q.heap.size,0,none⟩ 1 1 [iZ x.type,.int .u32 x.word] rfl rfl (DL q [iZ x.type,.int .u32 x.word] 63) (by intro u J;simp at J;rcases J with rfl|rfl<;>rfl) oX oM R ?_;intro V' X v G _ E;obtain⟨r,s,N⟩:=AO v;subst N;have K:Hid (Br w X [Cd (.slice r (f.length+1) s) (f++[x])] B I L a c l y):=Br.en (A:=[]) p.o (Cd (.slice r (f.length+1) s) (f++[x])) (by simpa[Ax.own,Cd,MC.cells]using v) G E;clear v G E p D);go_roundw;(case rel=>have t:(f++[x]).length=f.length+1:=sP;refine⟨j+1,f++[x],y,r,s,by rw[t],by go_num,oM,by rw[t,C.o],M.o,?_⟩;rw[t];exact K.o);case measure=>exact oI
  have a6:n=j:=oM;have Z:¬(j:Int)<(n:Int):=oM;go_wp2;go_ret;exact .inl ⟨f,_,m,rfl,g.o.2.1,g.o.2.2.sep.own (Cd (.slice b f.length d) f) sP,g.o.2.2.dr⟩
theorem MS(B I L:Nat)(a:Option Addr)(c:Nat)(l:List Int)(n k:Nat)(w:World)(hn:n<=65535)(h:IF w B I L a c l k):
 Calls Tryz.prog 64 #[iZ (n:Int),.func (Fn.func 65) #[.pointer (some ⟨I,0,none⟩)] #[]] w (QB (A9 (Iv l) n) (fun Y f V=>(BS V f).own Y w.heap.size) w B I L a c l k):=by
 obtain⟨W,P,S,T,U⟩:=kS Mg;have z:=Ag ((Br.start h).nil 72 4);clear h;go_enter Tryz.func64,Tryz.ntmps64;go_wp2;go_loopw [5,7] (fun o i wr=>∃(j:Nat) (f:List MT) (m:Nat) (b:Option Addr) (d:Nat),o=.slice b f.length d/\i=iZ (j:Int)/\j<=n/\Hid (f.length=j/\A9 (Iv l) j k=some (f,m)/\Br w wr [BS (.slice b f.length d) f] B I L a c l m)) (fun _ i _=>n-(intOf i).toNat)
 case atStart=>exact⟨0,[],k,none,0,rfl,rfl,oM,rfl,rfl,z.o⟩
 case round=>
  clear z;obtain⟨j,f,m,b,d,rfl,rfl,hj,g⟩:=hrel;have C:=Ag g.o.1;have a8:f.length<=65535:=by rw[C.o];omega
  by_cases ae:j<n
  . have ah:(j:Int)<(n:Int):=oM;go_wp2_with fail;refine(RO B I L a c l m wr g.o.2.2.dr.at_).mono ?_;rintro e q (⟨x,V,y,rfl,H,rfl,F⟩|⟨rfl,Q,O⟩);rotate_left
    . unfold BF;go_wp2;exact⟨rfl,.inr ⟨rfl,Dp (EE g.o.2.1 Q) oM,g.o.2.2.dr.gH.gP O⟩⟩
    have p:Hid (Br w (q.alloc (.cells #[iZ x.func,iZ x.head,iZ x.counter,.int .u32 x.init] 72)) [BS (.slice b f.length d) f] B I L a c l y):=(g.o.2.2.read F).aa (Aa _ _);have M:=Ag (Ez g.o.2.1 H);have D:Hid ((q.alloc (.cells #[iZ x.func,iZ x.head,iZ x.counter,.int .u32 x.init] 72)).ownsRow w.heap.size 72 4 (.slice b f.length d) f.length (f.flatMap MT.cells)):=p.o.sep.own (BS (.slice b f.length d) f) sP;have R:=p.o.size;clear H F g;go_wp2_with (at_builtin;refine wpList_append_own_at _ rfl _ _ 27 rfl w.heap.size 72 W (.agg #[iZ 0,iZ 0,iZ 0,.int .u32 0]) 4 32 Tryz.underlying27 P S T U rfl dC _ _ _ rfl D.o ⟨q.heap.size,0,none⟩ 1 1 [iZ x.func,iZ x.head,iZ x.counter,.int .u32 x.init] rfl rfl (DL q [iZ x.func,iZ x.head,iZ x.counter,.int .u32 x.init] 72) (by intro u J;simp at J;rcases J with rfl|rfl|rfl|rfl<;>rfl) oX oM R ?_;intro V' X v G _ E;obtain⟨r,s,N⟩:=AO v;subst N;have K:Hid (Br w X [BS (.slice r (f.length+1) s) (f++[x])] B I L a c l y):=Br.en (A:=[]) p.o (BS (.slice r (f.length+1) s) (f++[x])) (by simpa[Ax.own,BS,MT.cells]using v) G E;clear v G E p D);go_roundw;(case rel=>have t:(f++[x]).length=f.length+1:=sP;refine⟨j+1,f++[x],y,r,s,by rw[t],by go_num,oM,by rw[t,C.o],M.o,?_⟩;rw[t];exact K.o);case measure=>exact oI
  have a6:n=j:=oM;have Z:¬(j:Int)<(n:Int):=oM;go_wp2;go_ret;exact .inl ⟨f,_,m,rfl,g.o.2.1,g.o.2.2.sep.own (BS (.slice b f.length d) f) sP,g.o.2.2.dr⟩
def I7(D:Nat->Nat->Bool)(d j:Nat):Nat:=((List.range j).filter fun k=>D k d).length
theorem OZ(D:Nat->Nat->Bool)(d j:Nat):I7 D d (j+1)=I7 D d j+if D j d=true then 1 else 0:=by unfold I7;rw[mF,mB,f6];cases h:D j d<;>simp[h]
theorem RP(D:Nat->Nat->Bool)(d j:Nat):I7 D d j<=j:=by have:=mG (fun k=>D k d) (List.range j);simpa[I7]using this
theorem Pj(l z n b:Nat)(D:Nat->Nat->Bool)(w:World)(R:n<=1048576)(A:b<n)(h:G8 w l n (fun b d=>D d b)):
 Calls Tryz.prog 137 #[.slice (some ⟨l,0,none⟩) n z,.int .i64 (b:Int)] w fun e F=>∃c a,e=.returned (.int .i64 c)/\CR D n b n c a/\F=w:=by
 have H:Hid (G8 w l n (fun b d=>D d b)):=h;obtain⟨rb,S,t⟩:=h b A;have v:Hid (∀d,d<n->w.cell? ⟨rb,d,none⟩=some (.bool (D d b))):=t;have L:(b:Int)<(n:Int):=oM;clear h t;go_enter Tryz.func137,Tryz.ntmps137;go_wp2;go_loopw [5,6,7] (fun x y i wr=>∃(d:Nat) (c a:Int),d<=n/\x=.int .i64 c/\y=.int .i64 a/\i=.int .i64 d∧-1<=a/\a<=1048576/\Hid (CR D n b d c a)/\wr=w) (fun _ _ i _=>n-(intOf i).toNat)
 case atStart=>exact⟨0,-1,-1,oM,rfl,rfl,rfl,oM,oM,CR.start D n b,rfl⟩
 obtain⟨d,c,a,M,rfl,rfl,rfl,m,p,j,rfl⟩:=hrel;by_cases s:d<n
 . have Q:(d:Int)<(n:Int):=oM;by_cases e:d=b
   . subst e;have f:Hid (CR D n d (d+1) c a):=j.o.skip (fun q=>q.1 rfl);go_wp2;go_roundw;(case rel=>exact⟨d+1,c,a,oM,by trivial,by trivial,by go_num,m,p,f,by trivial⟩);exact oI
   have J:((d:Int)==(b:Int))=false:=oT;have K:¬(d:Int)=(b:Int):=oM;have c0:=v.o d s;cases hD:D d b
   . rw[hD]at c0;have f:Hid (CR D n b (d+1) c a):=j.o.skip (fun q=>by rw[hD]at q;cases q.2);go_wp2;go_roundw;(case rel=>exact⟨d+1,c,a,oM,by trivial,by trivial,by go_num,m,p,f,by trivial⟩);exact oI
   rw[hD]at c0;obtain⟨rd,I,r⟩:=H.o d s;have u:Hid (∀k,k<n->wr.cell? ⟨rd,k,none⟩=some (.bool (D k d))):=r;clear r;go_wp2;go_loopw [8,9] (fun x i G=>∃k:Nat,k<=n/\x=.int .i64 (I7 D d k:Int)/\i=.int .i64 k/\G=wr) (fun _ i _=>n-(intOf i).toNat)
   (case atStart=>exact⟨0,oM,rfl,rfl,rfl⟩);obtain⟨k,N,rfl,rfl,rfl⟩:=hrel;have O:=RP D d k;by_cases E:k<n
   . have P:(k:Int)<(n:Int):=oM;have c1:=u.o k E;have g:=OZ D d k;cases hDk:D k d
     . rw[hDk]at c1 g;simp only[mU,if_false,kD]at g;go_wp2;go_roundw;(case rel=>exact⟨k+1,oM,by rw[g],by go_num,by trivial⟩);exact oI
     rw[hDk]at c1 g;simp only[if_true]at g;go_wp2;go_roundw;(case rel=>exact⟨k+1,oM,by rw[g];go_num,by go_num,by trivial⟩);exact oI
   obtain rfl:k=n:=oM;have B:MA D k d=I7 D d k:=rfl;by_cases C:a<(I7 D d k:Int)
   . have f:Hid (CR D k b (d+1) (d:Int) (I7 D d k:Int)):=j.o.more e hD C;go_wp2;go_roundw;(case rel=>exact⟨d+1,_,_,oM,rfl,rfl,by go_num,oM,oM,f,by trivial⟩);exact oI
   have f:Hid (CR D k b (d+1) c a):=j.o.less (by rw[B];omega);go_wp2;go_roundw;(case rel=>exact⟨d+1,c,a,oM,by trivial,by trivial,by go_num,m,p,f,by trivial⟩);exact oI
 obtain rfl:d=n:=oM;go_wp2;go_ret;exact⟨c,a,rfl,j.o,rfl⟩
section
variable {E:Nat->List Nat} {D:Nat->Nat->Bool} {n h b k y:Nat}
def Es(E:Nat->List Nat)(D:Nat->Nat->Bool)(h b k:Nat):List Nat:=(((E b).take k).filter fun x=>decide (x=h)&&D h b).map fun _=>b
theorem KA(E:Nat->List Nat)(D:Nat->Nat->Bool)(b h:Nat):BM E D (b+1) h=BM E D b h++Es E D h b (E b).length:=by unfold BM Es;rw[mF,kO];simp
theorem OU(E:Nat->List Nat)(D:Nat->Nat->Bool)(h b:Nat):Es E D h b 0=[]:=by simp[Es]
theorem QG(d:(E b)[k]?=some h)(a:D h b=true):Es E D h b (k+1)=Es E D h b k++[b]:=by obtain⟨c,e⟩:=d7.1 d;unfold Es;rw[kQ c,mB,lW,e];simp[a]
theorem Nx(d:(E b)[k]?=some y)(c:¬(y=h/\D h b=true)):Es E D h b (k+1)=Es E D h b k:=by
 obtain⟨a,e⟩:=d7.1 d;unfold Es;rw[kQ a,mB,lW,e];have:(decide (y=h)&&D h b)=false:=by
  cases q:D h b with
  |false=>simp
  |true=>simp;exact fun e=>c ⟨e,q⟩
 simp[this]
theorem LX(E:Nat->List Nat)(D:Nat->Nat->Bool)(h b k:Nat):(Es E D h b k).length<=(E b).length:=by unfold Es;rw[kZ];refine jX (mG _ _) ?_;rw[lB];omega
theorem Jy(a:∀b,(E b).length<=2)(D:Nat->Nat->Bool)(h b:Nat):(BM E D b h).length<=2*b:=by
 induction b with
 |zero=>simp[BM]
 | succ b c=>have h1:=LX E D h b (E b).length;have h2:=a b;rw[KA,f6];omega
def WA(E:Nat->List Nat)(D:Nat->Nat->Bool)(n h x:Nat):Prop:=∃t∈BM E D n h,FK (P8 E n) (· ≠h) t x
structure OI(E:Nat->List Nat)(D:Nat->Nat->Bool)(n h:Nat)(L:List Nat):Prop where
 nodup:L.Nodup
 ne:∀x∈L,x≠h
 lt:∀x∈L,x<n
 src:∀x∈L,WA E D n h x
theorem OI.len(a:OI E D n h L):L.length<=n:=by have:=K7 L n a.lt a.nodup;omega
theorem OI.nil:OI E D n h []:=⟨List.nodup_nil,fun _ q=>(by cases q),fun _ q=>(by cases q),fun _ q=>(by cases q)⟩
theorem OI.add(d:OI E D n h L)(l:y≠h)(k:y<n)(m:WA E D n h y)(i:y∉L):OI E D n h (L++[y]):=by
 have f:∀x,x∈L++[y]->x∈L\/x=y:=fun x b=>by simpa using b
 refine⟨mu.2 ⟨d.nodup,sP,fun a j c g e=> ?_⟩,fun x b=> ?_,fun x b=> ?_,fun x b=> ?_⟩
 . simp only[ka,kr,ly]at g;subst g e;exact i j
 . rcases f x b with q|rfl
   . exact d.ne x q
   exact l
 . rcases f x b with q|rfl
   . exact d.lt x q
   exact k
 rcases f x b with q|rfl
 . exact d.src x q
 exact m
def Qz(h:Nat)(L B:List Nat):Prop:=∀x∈B,x=h\/x∈L
theorem Qz.en(a:Qz h L B)(z:Nat):Qz h (L++[z]) B:=fun x b=>(a x b).imp id fun q=>kB.2 (.inl q)
theorem Qz.next{b:List Nat}(c:Qz h L (B.take k))(f:∀x∈L,x∈b)(g:B[k]?=some y)(d:y=h\/y∈b):Qz h b (B.take (k+1)):=fun z a=>by
 obtain⟨e,rfl⟩:=d7.1 g;rw[kQ e]at a;rcases kB.1 a with a|a
 . exact(c z a).imp id (f z)
 simp only[ka,kr,ly]at a;subst a;exact d
def Tj(E:Nat->List Nat)(n h:Nat)(L:List Nat)(i:Nat):Prop:=∀j x,L[j]?=some x->j<i->∀y,y<n->x∈E y->y=h\/y∈L
def Mu(E:Nat->List Nat)(h:Nat)(L:List Nat)(x b:Nat):Prop:=∀y,y<b->x∈E y->y=h\/y∈L
theorem Tj.en(b:Tj E n h L i)(f:i<=L.length)(z:Nat):Tj E n h (L++[z]) i:=fun j x a c y e d=>by rw[lK oM]at a;exact(b j x a c y e d).imp id fun q=>kB.2 (.inl q)
theorem Mu.en(a:Mu E h L x b)(z:Nat):Mu E h (L++[z]) x b:=fun y d c=>(a y d c).imp id fun q=>kB.2 (.inl q)
theorem Mu.next(c:Mu E h L x b)(d:x∈E b->b=h\/b∈L):Mu E h L x (b+1):=fun y f a=>by
 by_cases e:y=b
 . subst e;exact d a
 exact c y oM a
theorem Tj.next(d:Tj E n h L i)(g:L[i]?=some x)(f:Mu E h L x n):Tj E n h L (i+1):=fun j z a k y b c=>by
 by_cases e:j=i
 . subst e;rw[g]at a;(cases a);exact f y b c
 exact d j z a oM y b c
theorem OI.step(a:OI E D n h L)(f:x∈L)(c:b<n)(d:x∈E b)(e:b≠h):WA E D n h b:=by obtain⟨t,h1,h2⟩:=a.src x f;exact⟨t,h1,.step h2 ((Mc E n x b).2 ⟨c,d⟩) e⟩
theorem OI.iff(b:OI E D n h L)(c:Qz h L (BM E D n h))(d:Tj E n h L L.length)(x:Nat):(h::L).contains x=true↔IE E D n h x:=by
 simp only[List.contains_eq_mem,mP,ka];unfold IE;refine or_congr_right ⟨b.src x,?_⟩;rintro⟨t,h1,h2⟩;induction h2 with
 |here q=>exact(c t h1).resolve_left q
 | step _ f g e=>obtain⟨j,a⟩:=lY e;obtain⟨i,k⟩:=(Mc E n _ _).1 f;exact(d j _ a (d7.1 a).1 _ i k).resolve_left g
end
theorem NG(h:Nat)(L:List Nat)(y n:Nat):∀j,j<n->(h::(L++[y])).contains j=if j=y then true else(h::L).contains j:=fun j _=>by
 by_cases e:j=y
 . subst e;simp
 simp[e]
theorem Su:(Tryz.prog.info? 218).map (fun i=>(i.zero,i.size,i.bytes))=some (some (.agg #[iZ 0,sN,sN]),3,56):=kR
structure L1(w u:World)(n h bl gi:Nat)(BV:Value)(B:List Nat):Prop where
 gT:Aw u w.heap.size #[iZ 0,sN,sN] 218
 cC:Aw u bl #[iZ (h:Int),BV,sN] 218
 gR:Gv u w.heap.size gi n (fun x=>[h].contains x)
 back:Kb u w.heap.size BV B
 aC:Below w.heap.size w u
 lt:w.heap.size<bl
theorem L1.al{a:Value}(l:L1 w u n h b c a B)(o:Obj):(u.alloc o).ownsRow w.heap.size 2 1 a B.length (nv B)/\w.heap.size<=(u.alloc o).heap.size:=⟨l.back.aa (Aa _ _),jX l.aC.size (Aa _ _).size⟩
theorem L1.en{b:World}{k:Nat}{g:Value}(l:L1 w u n h d k g B)(r:b.ownsRow w.heap.size 2 1 V' (B.length+1) (nv B++[iZ (y:Int)]))(j:(u.alloc (.cells #[iZ (y:Int)] 2)).grownBy b g.ownBlock):Aw b d #[iZ (h:Int),g,sN] 218/\L1 w (b.setCell ⟨d,1,none⟩ V') n h d k V' (B++[y]):=by
 have c:=Aa u (.cells #[iZ (y:Int)] 2);have p:=l.back.aa c;have f:Aw b d #[iZ (h:Int),g,sN] 218:=(l.cC.aa c).grown j p dC;have z:=(l.gT.aa c).grown j p dC;have s:Gv b w.heap.size k n (fun x=>[h].contains x):=CU (l.gR.aa c) j p dC;have t:Below w.heap.size w b:=(Ac l.aC lR c).grown j (jX l.aC.size c.size) (fun i v=>(l.back.lt i v).1);refine⟨f,z.other (by have:=l.lt;simp only[];omega) _,?_,?_,?_,t.setCell (mr l.lt) _,l.lt⟩
 . have:=f.set 1 V';simpa using this
 . (refine s.other fun e=> ?_);obtain⟨_,C,h1⟩:=AQ s;subst e;unfold Aw at f;rw[f]at h1;simp only[i4,lZ]at h1;exact absurd h1.2.1 dC
 unfold Kb;rw[f6,jY,JI];refine i9 r (a:=⟨d,1,none⟩) (fun q=> ?_) _;rcases r.2 with⟨rfl,_⟩|⟨E,A,D,rfl,_,m,_⟩
 . cases q
 simp only[Value.ownBlock,i4]at q;subst q;unfold Aw at f;rw[f]at m;simp only[i4,lZ]at m;exact absurd m.2.1 dC
theorem L1.aa{b:Value}(l:L1 w u n h c d b B)(a:Below u.heap.size u e):L1 w e n h c d b B:=⟨l.gT.aa a,l.cC.aa a,l.gR.aa a,l.back.aa a,Ac l.aC lR a,l.lt⟩
structure L2(w w1 u:World)(n gi:Nat)(P:Nat->Bool)(LV:Value)(L:List Nat):Prop where
 gR:Gv u w.heap.size gi n P
 list:Kb u w1.heap.size LV L
 fx:∀k,k<w1.heap.size->k≠gi->u.heap[k]?=w1.heap[k]?
 aC:Below w.heap.size w u
 size:w1.heap.size<=u.heap.size
 glt:gi<w1.heap.size
theorem L2.mark{a:Nat}{c:Value}(l:L2 w e u n a P c L)(i:Nat)(b:Bool)(f:∀j,j<n->Q j=if j=i then b else P j):L2 w e (u.setCell ⟨a,i,none⟩ (.bool b)) n a Q c L:=⟨l.gR.set i b f,CA l.list l.gR dC i _,fun k g d=>by rw[km u _ k _ d];exact l.fx k g d,l.aC.setCell (AQ l.gR).1 _,by rw[lM];exact l.size,l.glt⟩
theorem L2.al{b:Value}(l:L2 w a u n c P b L)(o:Obj):(u.alloc o).ownsRow a.heap.size 2 1 b L.length (nv L)/\a.heap.size<=(u.alloc o).heap.size:=⟨l.list.aa (Aa _ _),jX l.size (Aa _ _).size⟩
theorem L2.aa{b:Value}(l:L2 w f u n c P b L)(a:Below u.heap.size u e):L2 w f e n c P b L:=⟨l.gR.aa a,l.list.aa a,fun k d g=>by rw[a.block k (lA d l.size)];exact l.fx k d g,Ac l.aC lR a,jX l.size a.size,l.glt⟩
theorem L2.en{c:World}{g:Value}(l:L2 w c u n h P g L)(hw:w.heap.size<=c.heap.size)(p:f.ownsRow c.heap.size 2 1 V' (L.length+1) (nv L++[iZ (y:Int)]))(b:(u.alloc (.cells #[iZ (y:Int)] 2)).grownBy f g.ownBlock):L2 w c f n h P V' (L++[y]):=by
 have a:=Aa u (.cells #[iZ (y:Int)] 2);have q:=l.list.aa a;refine⟨CU (l.gR.aa a) b q dC,?_,fun k d m=> ?_,(Ac l.aC lR a).grown b (jX l.aC.size a.size) (fun i j=>jX hw (l.list.lt i j).1),jX l.size (jX a.size b.size),l.glt⟩
 . unfold Kb;rw[f6,jY,JI];exact p
 rw[b.block k (lA d (jX l.size a.size)) (fun e=>by have:=(l.list.lt k e.symm).1;omega),a.block k (lA d l.size)];exact l.fx k d m
theorem L2.cC{f:Value}(l:L2 w e u n c P f L){a:Array Value}(d:Aw e b a t)(g:b≠c):Aw u b a t:=by unfold Aw at*;rw[l.fx b (kN.1 d).1 g];exact d
theorem L2.cell{d:World}{e:Value}(l:L2 w d u n b P e L){a:Addr}{x:Value}(c:d.cell? a=some x)(f:a.block≠b):u.cell? a=some x:=by have:=l.fx a.block (d5 c) f;unfold World.cell? at*;rw[this];exact c
theorem Kb.fx(h:Kb a base s l)(e:∀k,k<a.heap.size->k≠x->u.heap[k]?=a.heap[k]?)(i:∀g,s.ownBlock=some g->g≠x):Kb u base s l:=by
 refine⟨h.1,?_⟩;rcases h.2 with h|⟨g,cap,c,rfl,d,b,f⟩
 . exact .inl h
 refine .inr ⟨g,cap,c,rfl,d,?_,f⟩;rw[e g (kN.1 b).1 (i g rfl)];exact b
theorem Kb.iM{a:Array Value}(h:Kb w base s l)(c:Aw w b a t)(d:2≠t):∀g,s.ownBlock=some g->g≠b:=B3 h c d
theorem Gv.congr(h:Gv w base g n P)(a:∀i,i<n->P i=Q i):Gv w base g n Q:=by unfold Gv at*;rw[NB a]at h;exact h
structure L4(w w2 u:World)(n h bl gi:Nat)(BV KV:Value)(K:List Nat)(P:Nat->Bool):Prop where
 gT:Aw u w.heap.size #[iZ 0,sN,sN] 218
 cC:Aw u bl #[iZ (h:Int),BV,KV] 218
 gR:Gv u w.heap.size gi n P
 row:Kb u w2.heap.size KV K
 fx:∀k,k<w2.heap.size->k≠bl->u.heap[k]?=w2.heap[k]?
 aC:Below w.heap.size w u
 size:w2.heap.size<=u.heap.size
 blt:bl<w2.heap.size
theorem L4.al{e:Nat}{c b:Value}(l:L4 w a u n h d e c b K P)(o:Obj):(u.alloc o).ownsRow a.heap.size 2 1 b K.length (nv K)/\a.heap.size<=(u.alloc o).heap.size:=⟨l.row.aa (Aa _ _),jX l.size (Aa _ _).size⟩
theorem L4.en{p d:World}{r:Nat}{g j:Value}(l:L4 w p u n h c r g j K P)(hw:w.heap.size<c)(x:d.ownsRow p.heap.size 2 1 V' (K.length+1) (nv K++[iZ (y:Int)]))(f:(u.alloc (.cells #[iZ (y:Int)] 2)).grownBy d j.ownBlock):Aw d c #[iZ (h:Int),g,j] 218/\L4 w p (d.setCell ⟨c,2,none⟩ V') n h c r g V' (K++[y]) P:=by
 have b:=Aa u (.cells #[iZ (y:Int)] 2);have t:=l.row.aa b;have m:Aw d c #[iZ (h:Int),g,j] 218:=(l.cC.aa b).grown f t dC;have D:=(l.gT.aa b).grown f t dC;have z:Gv d w.heap.size r n P:=CU (l.gR.aa b) f t dC;have C:w.heap.size<=p.heap.size:=by have:=l.blt;omega
 have A:Below w.heap.size w d:=(Ac l.aC lR b).grown f (jX l.aC.size b.size) (fun i B=>jX C (l.row.lt i B).1);refine⟨m,D.other oS _,?_,?_,?_,fun k s v=> ?_,A.setCell (mr hw) _,?_,l.blt⟩
 . have:=m.set 2 V';simpa using this
 . (refine z.other fun e=> ?_);obtain⟨_,E,h1⟩:=AQ z;subst e;unfold Aw at m;rw[m]at h1;simp only[i4,lZ]at h1;exact absurd h1.2.1 dC
 . unfold Kb;rw[f6,jY,JI];refine i9 x (a:=⟨c,2,none⟩) (fun q=> ?_) _;have:=(x.lt c q).1;have:=l.blt;omega
 . rw[km d _ k _ v,f.block k (lA s (jX l.size b.size)) (fun e=>by have:=(l.row.lt k e.symm).1;omega),b.block k (lA s l.size)];exact l.fx k s v
 rw[lM];exact jX l.size (jX b.size f.size)
end Go.Proofs.YthjbicggfnnonaaGreatDoor
