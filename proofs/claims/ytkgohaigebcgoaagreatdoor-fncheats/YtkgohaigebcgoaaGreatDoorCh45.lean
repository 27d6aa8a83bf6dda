import Derived.Test.YtkgohaigebcgoaaGreatDoorCh44
namespace Go.Proofs.YtkgohaigebcgoaaGreatDoor
open Go.ChangeShapes Go.WideShapes Go.ChangeAt Go.RowKit Go.Proofs.Tryz
set_option linter.unusedVariables false
open Go.Value renaming slice → Z,bool → Ao,int → Ag,agg → An,tuple → Ap
open Option renaming some → K,none → M
open Go renaming World → Y,Calls → Ai,Value → J,TypeId → Aj
open Go.RowKit renaming Hid → Ae,Below → Ah
open Go.Ending renaming returned → Am
open Go.Proofs.Tryz renaming prog → Aq
open List renaming flatMap → Ad
open Go.IntKind renaming i64 → Af
open Go.Obj renaming cells → Ak
open Go.World renaming alloc → Ac,setCell → Aa,ownsRow → Ab
set_option maxHeartbeats 8000000
set_option maxRecDepth 100000
variable {b g c:Nat}{a:Nat->Nat}{E:Nat->List Nat}
theorem GL(z:Int)(w:Y):Ai Aq 187 #[z] w λe d=>e=Am (Ao (decide (0<=z/\z<=4294967295)))/\d=w:=by
 by_cases a:0<=z
 . by_cases c:z<=4294967295
   . rw[decide_eq_true ⟨a,c⟩];have b:z>=0:=a;go_enter func187,ntmps187;go_wp2_with fail;go_ret;exact⟨rfl,rfl⟩
   rw[nC (λh=>c h.2)];have b:z>=0:=a;go_enter func187,ntmps187;go_wp2_with fail;go_ret;exact⟨rfl,rfl⟩
 rw[nC (λh=>a h.1)];have b:¬z>=0:=a;go_enter func187,ntmps187;go_wp2_with fail;go_ret;exact⟨rfl,rfl⟩
structure RwS(w:Y)(n gS gB:Nat)(I:List Nat)(L:List Int):Prop where
 st:∀b,b<n->w ⟨gS,b,M⟩=K ↑(jf I b:Int)/\jf I b<n
 su:∀c,c<n->w ⟨gB,c,M⟩=K ↑(cf L c)
theorem Hj(p n A O v N:Nat)(I:List Nat)(L:List Int)(a:Option Addr)(c:Nat)(d:List Int)(w:Y)(hn:n<=1048576)(X:w ⟨p,16,M⟩=K (sG A n O))(B:RwS w n A v I L)(hl:d.length<=1048576)(C:Rd w 1 (Z a d c) d (Ad At d))(j:∀z∈d,∃b:Nat,z=(b:Int)/\b<n):
 Ai Aq 166 #[.pointer p,sG v n N,Z a d c] w λe V=>∃m,e=Am (iZ m)/\V=w/\ER (λb=>cf L (jf I b)) (λb=>(b:Int)∈d) m:=by
 have H:=Aw (lN B (lN C j));clear B C j;go_enter func166,ntmps166;go_wp2_with fail;go_loopw [7,12] (λm i wr=>∃(k:Nat) (f:Int),k<= ↑d/\m=iZ f/\i=iZ k/\wr=w/\Ae (ER (λb=>cf L (jf I b)) (λb=>(b:Int)∈d.take k) f)) (λ_ i _=> ↑d-(intOf i).toNat)
 case atStart=>exact⟨0,0,oM,rfl,rfl,rfl,ER.none (λb j=>by simp at j)⟩
 obtain⟨k,f,hk,rfl,rfl,rfl,HM⟩:=hrel;by_cases D:k< ↑d
 case neg=>go_wp2_with fail;go_ret;exact⟨f,rfl,rfl,by have:=HM.o;rw[mm (show ↑d<=k from oM)]at this;exact this⟩
 have ae:(k:Int)<(d:Int):=oM;have l:d[k]?=K d[k]:=an D;obtain⟨b,u,Q⟩:=H.2.2 d[k] (pS D);rw[u]at l;obtain⟨g,o,P,W⟩:∃g o,a=K ⟨g,o,M⟩/\wr ⟨g,o+k,M⟩=K ↑(b:Int):=by
  rcases H.2.1.2 with⟨q,_⟩|⟨g,o,c',t,R⟩
  . omega
  simp only[lU,mj]at t;exact⟨g,o,t.1,R k _ (EW l)⟩
 subst P;obtain⟨U,E⟩:=H.1.st b Q;have F:=H.1.su _ E;have aa:(b:Int)<(n:Int):=oM;have S:(jf I b:Int)<(n:Int):=oM;have G:=Aw l;clear l u;have r:Ae (ER (λb=>cf L (jf I b)) (λb=>(b:Int)∈d.take (k+1)) (max f (cf L (jf I b)))):=HM.add λy=>by
  rw[List.take_add_one,G.o,mA];simp only[Option.toList,lW,lZ,mS];constructor
  . rintro(h|h)
    . exact .inl h
    exact .inr oM
  rintro(h|rfl)
  . exact .inl h
  exact .inr rfl
 generalize T:cf L (jf I b)=y at F r;clear T;generalize jf I b=s at U E F S;go_wp2_with fail;go_roundw;case rel=>exact⟨k+1,max f y,oM,by trivial,by go_num,by trivial,r⟩
 exact oI
theorem Ly(r k f t h g cc b o i q:EJ)(rs co at_:Int)(n gk ok:Nat)(w:Y)(hn:n<f.n)
 (l:w ⟨gk,ok+n*4,M⟩=K (Z h.a h.n h.c)) (m:w ⟨gk,ok+n*4+1,M⟩=K ↑rs) (p:w ⟨gk,ok+n*4+2,M⟩=K (Z g.a g.n g.c)) (s:w ⟨gk,ok+n*4+3,M⟩=K (Z cc.a cc.n cc.c)):
 Ai Aq 32 #[An #[Z r.a r.n r.c,Z k.a k.n k.c,Z (K ⟨gk,ok,M⟩) f.n f.c,Z t.a t.n t.c],n,An #[co,at_,Z b.a b.n b.c,Z o.a o.n o.c,Z i.a i.n i.c,Z q.a q.n q.c]] w λe w'=>e=Am (An (BN.cells ⟨r,k,⟨K ⟨gk,ok,M⟩,f.n,f.c⟩,t,h,rs,g,cc,(n:Int),co,at_,b,o,i,q⟩))/\Ah w w w':=by
 have y:=Gw w #[Z r.a r.n r.c,Z k.a k.n k.c,Z (K ⟨gk,ok,M⟩) f.n f.c,Z t.a t.n t.c] #[co,at_,Z b.a b.n b.c,Z o.a o.n o.c,Z i.a i.n i.c,Z q.a q.n q.c] #[Z M 0 0,Z M 0 0,Z M 0 0,Z M 0 0,Z M 0 0,Ag Af 0,Z M 0 0,Z M 0 0,Ag Af 0,Ag Af 0,Ag Af 0,Z M 0 0,Z M 0 0,Z M 0 0,Z M 0 0] 40 61 111;have A:Ae (w ⟨gk,ok+n*4,M⟩=K (Z h.a h.n h.c)/\w ⟨gk,ok+n*4+1,M⟩=K ↑rs/\w ⟨gk,ok+n*4+2,M⟩=K (Z g.a g.n g.c)/\w ⟨gk,ok+n*4+3,M⟩=K (Z cc.a cc.n cc.c)):=⟨l,m,p,s⟩
 clear l m p s;unfold BN.cells;go_enter func32,ntmps32;go_upto_region 1 with fail
 refine Av (λu=>Ae (Ay u w #[Z r.a r.n r.c,Z k.a k.n k.c,Z (K ⟨gk,ok,M⟩) f.n f.c,Z t.a t.n t.c] 40/\Ay u ((w:Nat)+1) #[co,at_,Z b.a b.n b.c,Z o.a o.n o.c,Z i.a i.n i.c,Z q.a q.n q.c] 61/\Ay u ((w:Nat)+1+1) #[Z M 0 0,Z M 0 0,Z M 0 0,Z M 0 0,Z M 0 0,Ag Af 0,Z M 0 0,Z M 0 0,Ag Af 0,Ag Af 0,Ag Af 0,Z M 0 0,Z M 0 0,Z M 0 0,Z M 0 0] 111/\Ah w w u)) y ?_
 rintro U j;clear y;obtain⟨p0,p1,p2,p3⟩:=Cv j.1;obtain⟨y0,y1,y2,y3,y4,y5⟩:=IL j.2.1;obtain⟨l,m,p,s⟩:=A.o;rw[<-j.2.2.2.cell (lT l)]at l;rw[<-j.2.2.2.cell (lT m)]at m;rw[<-j.2.2.2.cell (lT p)]at p;rw[<-j.2.2.2.cell (lT s)]at s;have d:Ae (Ay U ((w:Nat)+1+1) #[Z M 0 0,Z M 0 0,Z M 0 0,Z M 0 0,Z M 0 0,Ag Af 0,Z M 0 0,Z M 0 0,Ag Af 0,Ag Af 0,Ag Af 0,Z M 0 0,Z M 0 0,Z M 0 0,Z M 0 0] 111):=j.2.2.1;have T:=d.cell 0;have aj:=d.frozen 0;have V:=d.cell 1;have aq:=d.frozen 1;have z2:=d.cell 2;have aG:=d.frozen 2;have z3:=d.cell 3;have aH:=d.frozen 3;have z4:=d.cell 4;have aI:=d.frozen 4;have z5:=d.cell 5;have aJ:=d.frozen 5;have z6:=d.cell 6;have aK:=d.frozen 6;have z7:=d.cell 7;have aM:=d.frozen 7;have z8:=d.cell 8;have aO:=d.frozen 8;have z9:=d.cell 9;have aQ:=d.frozen 9;have W:=d.cell 10;have au:=d.frozen 10;have X:=d.cell 11;have ax:=d.frozen 11;have aa:=d.cell 12;have aA:=d.frozen 12;have ae:=d.cell 13;have aE:=d.frozen 13;have ai:=d.cell 14;have aF:=d.frozen 14;simp only[lQ,lO,lS]at T V z2 z3 z4 z5 z6 z7 z8 z9 W X aa ae ai;have aR:(n:Int)<(f.n:Int):=oM;have s1:¬gk= ↑w+1+1:=by have:=A.1;have:=lT this;simp only[]at this;omega
 go_region;have G:Ae _:=(((((((((((((((d.set 0 (Z r.a r.n r.c)).set 1 (Z k.a k.n k.c)).set 2 (Z (K ⟨gk,ok,M⟩) f.n f.c)).set 3 (Z t.a t.n t.c)).set 4 (Z h.a h.n h.c)).set 5 rs).set 6 (Z g.a g.n g.c)).set 7 (Z cc.a cc.n cc.c)).set 8 n).set 9 co).set 10 at_).set 11 (Z b.a b.n b.c)).set 12 (Z o.a o.n o.c)).set 13 (Z i.a i.n i.c)).set 14 (Z q.a q.n q.c));simp only[mO,mi,mh]at G;refine Cf (λu=>Ae (Ay u ((w:Nat)+1+1) #[Z r.a r.n r.c,Z k.a k.n k.c,Z (K ⟨gk,ok,M⟩) f.n f.c,Z t.a t.n t.c,Z h.a h.n h.c,rs,Z g.a g.n g.c,Z cc.a cc.n cc.c,n,co,at_,Z b.a b.n b.c,Z o.a o.n o.c,Z i.a i.n i.c,Z q.a q.n q.c] 111/\Ah w w u)) ?_ ?_
 . exact⟨Ay.av (b:=(w:Nat)+1+1) (t:=111) G (As _),Ar (((((((((((((((j.2.2.2.setCell oS _).setCell oS _).setCell oS _).setCell oS _).setCell oS _).setCell oS _).setCell oS _).setCell oS _).setCell oS _).setCell oS _).setCell oS _).setCell oS _).setCell oS _).setCell oS _).setCell oS _) lR (As _)⟩
 rintro U2 z;clear G d j p0 p1 p2 p3 y0 y1 y2 y3 y4 y5 l m p s T aj V aq z2 aG z3 aH z4 aI z5 aJ z6 aK z7 aM z8 aO z9 aQ W au X ax aa aA ae aE ai aF s1;obtain⟨B,C,L,x3,N,O,P,Q,R,S,D,E,F,H,I⟩:=CW (v:=⟨r,k,⟨K ⟨gk,ok,M⟩,f.n,f.c⟩,t,h,rs,g,cc,(n:Int),co,at_,b,o,i,q⟩) z.1;simp only[]at B C L x3 N O P Q R S D E F H I;go_wp2;exact mM (v:=An #[Z r.a r.n r.c,Z k.a k.n k.c,Z (K ⟨gk,ok,M⟩) f.n f.c,Z t.a t.n t.c,Z h.a h.n h.c,rs,Z g.a g.n g.c,Z cc.a cc.n cc.c,n,co,at_,Z b.a b.n b.c,Z o.a o.n o.c,Z i.a i.n i.c,Z q.a q.n q.c]) (by simp[results,results32,go_sem,B,C,L,x3,N,O,P,Q,R,S,D,E,F,H,I]) rfl ⟨rfl,z.2⟩
theorem SP(a l:ML)(d:Option Addr)(c1:Nat)(f:Option Addr)(c2:Nat)(x y:EJ)(B:Nat)(w:Y)(r:a.back.length<=1048576/\a.a7.length<=1048576)(t:l.back.length<=1048576/\l.a7.length<=1048576)(h:M3 w (a,Z d a.back c1,Z f a.a7 c2))(p:M3 w (l,Z x.a x.n x.c,Z y.a y.n y.c))(q:Ay w B #[l.head,Z x.a x.n x.c,Z y.a y.n y.c] 65):
 Ai Aq 29 #[An #[a.head,Z d a.back c1,Z f a.a7 c2],.pointer B] w λe I=>AM e (a=l)/\Ah w w I:=by
 have H:Ae (M3 w (a,Z d a.back c1,Z f a.a7 c2)/\M3 w (l,Z x.a x.n x.c,Z y.a y.n y.c)/\(a.back.length<=1048576/\a.a7.length<=1048576)/\(l.back.length<=1048576/\l.a7.length<=1048576)):=⟨h,p,r,t⟩
 have j:Ae (Ay (Ac w (Ak #[a.head,Z d a.back c1,Z f a.a7 c2] 65)) w #[a.head,Z d a.back c1,Z f a.a7 c2] 65/\Ay (Ac w (Ak #[a.head,Z d a.back c1,Z f a.a7 c2] 65)) B #[l.head,Z x.a x.n x.c,Z y.a y.n y.c] 65/\Ah w w (Ac w (Ak #[a.head,Z d a.back c1,Z f a.a7 c2] 65))):=⟨Ay.new _ _ _,q.av (Al _ _),Al _ _⟩
 clear h p r t q;go_enter func29,ntmps29;go_upto_region 1 with fail
 refine Av (λu=>Ae (Ay u w #[a.head,Z d a.back c1,Z f a.a7 c2] 65/\Ay u B #[l.head,Z x.a x.n x.c,Z y.a y.n y.c] 65/\Ah w w u)) j ?_
 rintro U g;clear j;obtain⟨D,E,F⟩:=CI g.1;obtain⟨z,A,C⟩:=CI g.2.1;go_wp2_with fail;refine(Pw a l (Z d a.back c1) (Z f a.a7 c2) (Z x.a x.n x.c) (Z y.a y.n y.c) U H.2.2.1 H.2.2.2 (M4.av (v:=⟨Z d a.back c1,Z f a.a7 c2⟩) H.1 g.2.2 lR) (M4.av (v:=⟨Z x.a x.n x.c,Z y.a y.n y.c⟩) H.2.1 g.2.2 lR)).mono ?_;rintro e G ⟨⟨b,rfl,s⟩,m⟩;have k:Ae (Ah w w G/\(b=true↔a=l)):=⟨Ar g.2.2 lR m,s⟩
 clear m s g D E F z A C;go_wp2;go_ret;exact⟨.of k.2,k.1⟩
theorem Ns(s:Option Addr)(r:Nat)(d:List ML)(l:ML)(x y:EJ)(B:Nat)(w:Y)(hn:d.length<=1048576)(I:∀m∈d,m.back.length<=1048576/\m.a7.length<=1048576)(F:l.back.length<=1048576/\l.a7.length<=1048576)(h:Ln w (Z s d r) d)(C:M3 w (l,Z x.a x.n x.c,Z y.a y.n y.c))(D:Ay w B #[l.head,Z x.a x.n x.c,Z y.a y.n y.c] 65):
 Ai Aq 66 #[Z s d r,.func (.func 29) #[] #[.pointer B]] w λe w'=>(∃n:Int,e=Am n/\(0<=n↔l∈d))/\Ah w w w':=by
 have H:Ae (Ln w (Z s d r) d/\M3 w (l,Z x.a x.n x.c,Z y.a y.n y.c)/\Ay w B #[l.head,Z x.a x.n x.c,Z y.a y.n y.c] 65/\(∀m∈d,m.back.length<=1048576/\m.a7.length<=1048576)/\(l.back.length<=1048576/\l.a7.length<=1048576)):=⟨h,C,D,I,F⟩
 clear h C D I F;go_enter func66,ntmps66;go_wp2;go_loopw [8] (λi wr=>∃k:Nat,k<= ↑d/\i=Ag Af k/\Ae (∀j:Nat,j<k->¬d[j]?=K l)/\Ae (Ah w w wr)) (λi _=> ↑d-(intOf i).toNat)
 case atStart=>exact⟨0,oM,rfl, λj g=>absurd g oM,mP _ _⟩
 case round=>
 obtain⟨k,hk,rfl,t,f⟩:=hrel;by_cases U:k< ↑d
 case pos=>
  obtain⟨m,q⟩:∃m,d[k]?=K m:=⟨_,an U⟩;obtain⟨gl,ol,u,L,z,N,S,V,W,X,G⟩:=Jv (H.1.av f lR) q;subst S;have HM:Ae (d[k]?=K m/\M3 wr (m,Z u m.back L,Z z m.a7 N)):=⟨q,G⟩
  clear q G;go_wp2_with fail;refine(SP m l u L z N x y B wr (H.2.2.2.1 m (lP HM.1)) H.2.2.2.2 HM.2 (M4.av (v:=⟨Z x.a x.n x.c,Z y.a y.n y.c⟩) H.2.1 f lR) (H.2.2.1.av f)).mono ?_;rintro e u1 ⟨⟨b,rfl,E⟩,A⟩;have p:Ae (Ah w w u1/\(b=true↔m=l)):=⟨Ar f lR A,E⟩
  clear A E V W X;cases b
  case true=>(have Q:Ae (l∈d):=by have:=p.2.1 rfl;rw[<-this];exact lP HM.1);go_wp2;go_ret;exact⟨⟨(k:Int),rfl,⟨λ_=>Q.o, λ_=>oM⟩⟩,p.1⟩
  case false=>
   have P:Ae (∀j:Nat,j<k+1->¬d[j]?=K l):= λj g e=>by
    by_cases R:j=k
    . subst R;rw[HM.1]at e;have:=p.2.2 (mD e);cases this
    exact t.o j oM e
   go_wp2;go_roundw;(case rel=>exact⟨k+1,oM,by go_num,P,p.1⟩);exact oI
 have T:k=d.length:=oM;subst T;have O:Ae (¬l∈d):= λe=>by obtain⟨j,g⟩:=nB e;exact t.o j (f7.1 g).1 g
 go_wp2;go_ret;exact⟨⟨-1,rfl,⟨λe=>absurd e dC, λe=>absurd e O.o⟩⟩,f⟩
theorem JR(s:Option Addr)(d:Nat)(b:List ML)(l:ML)(x y:EJ)(B:Nat)(w:Y)(t:b.length<=1048576)(r:∀m∈b,m.back.length<=1048576/\m.a7.length<=1048576)(p:l.back.length<=1048576/\l.a7.length<=1048576)(h:Ln w (Z s b d) b)(j:M3 w (l,Z x.a x.n x.c,Z y.a y.n y.c))(k:Ay w B #[l.head,Z x.a x.n x.c,Z y.a y.n y.c] 65):
 Ai Aq 31 #[Z s b d,.func (.func 29) #[] #[.pointer B]] w λe v=>AM e (l∈b)/\Ah w w v:=by
 have H:Ae (Ln w (Z s b d) b/\M3 w (l,Z x.a x.n x.c,Z y.a y.n y.c)/\Ay w B #[l.head,Z x.a x.n x.c,Z y.a y.n y.c] 65/\(∀m∈b,m.back.length<=1048576/\m.a7.length<=1048576)/\(l.back.length<=1048576/\l.a7.length<=1048576)):=⟨h,j,k,r,p⟩
 clear h j k r p;go_enter func31,ntmps31;go_wp2_with fail;refine(Ns s d b l x y B w t H.2.2.2.1 H.2.2.2.2 H.1 H.2.1 H.2.2.1).mono ?_;rintro e u ⟨⟨n,rfl,q⟩,g⟩;have f:Ae (Ah w w u/\(0<=n↔l∈b)):=⟨g,q⟩
 clear g q;go_wp2;go_ret;exact⟨.of (by simpa using f.2),f.1⟩
structure T8(w:Y)(v:BN)(p:MP)(fi:Int)(F:List (MB×J))(xs:List MI)(r:DQ):Prop where
 bs:JI w v F xs
 nx:∀z∈F,Yq w z.2 z.1/\z.1.next.length<=1048576
 cd:T9 w v xs p.b8
 tn:p.bO.length<=1048576
 tr:Rd w 4 (Z v.t.a v.t.n v.t.c) p.bO (Ad MT.cells p.bO)
 nu:v.nu=fi
 eb:F.map Prod.fst=r.a7
 iy:qn xs r
 ls:Ln w (Z v.q.a v.q.n v.q.c) r.cv
 ln:v.q.n= ↑r.cv
 od:Rd w 1 (Z v.o.a v.o.n v.o.c) r.dr (Ad At r.dr)
section
variable {w u:Y} {v:BN} {p:MP} {fi:Int} {F:List (MB×J)} {xs:List MI} {r:DQ}
theorem T8.av(H:T8 w v p fi F xs r)(a:Ah w w u):T8 u v p fi F xs r:=⟨H.bs.av a, λz b=>⟨(H.nx z b).1.av a lR,(H.nx z b).2⟩,H.cd.av a,H.tn,H.tr.av a lR,H.nu,H.eb,H.iy,H.ls.av a lR,H.ln,H.od.av a lR⟩
theorem T8.fl(H:T8 w v p fi F xs r):F.length=r.a7.length:=by rw[<-H.eb,mQ]
theorem T8.loop(H:T8 w v p fi F xs r){l:ML}(g:l∈r.cv){y:EJ}(j:Rd w 1 (Z y.a y.n y.c) l.a7 (Ad At l.a7)):∃(h:Nat) (m:MB),l.head=(h:Int)/\h< ↑r.a7/\T7 w v y p fi F xs h l m:=by obtain⟨⟨h,b,d⟩,e,f,k⟩:=H.iy.loop l g;exact⟨h,_,b,d,H.bs,H.nx,H.cd,H.tn,H.tr,H.nu,b,by rw[H.eb];exact an d,j,f,by rw[H.fl];exact e⟩
end
structure qp(w u:Y)(v:BN):Prop where
 body:Ay u w v.cells 111
 ia:Ay u ((w:Nat)+1) #[iZ 0,sN,sN] 65
 cq:Ah w w u
theorem qp.av{w u b:Y}{v:BN}(h:qp w u v)(a:Ah u u b):qp w b v:=⟨h.body.av a,h.ia.av a,Ar h.cq lR a⟩
theorem Hm(v:BN)(p:MP)(fi:Int)(F:List (MB×J))(xs:List MI)(r:DQ)(w:Y)(t:T8 w v p fi F xs r):
 Ai Aq 127 #[An v.cells] w λe w'=>(∃(h:Int) (x y:EJ) (b:Bool),e=Am (Ap #[An #[h,Z x.a x.n x.c,Z y.a y.n y.c],b])/\(b=true->∃(k:Nat) (l:ML) (n:Int),r.cv[k]?=K l/\l.head=h/\n≠0/\A5 p fi xs r.a7 l n/\∀R∈r.cv.take k,A5 p fi xs r.a7 R 0)/\(b=false->∀l∈r.cv,A5 p fi xs r.a7 l 0))/\Ah w w w':=by
 have H:=Aw t;have aH:r.cv.length<=1024:=t.iy.nl;have HN:=Aw t.ln;obtain⟨qa,ai⟩:∃qa,v.q.a=qa:=⟨_,rfl⟩;have T:=Aw ai;clear ai t;have I:=Bw w v.cells #[iZ 0,sN,sN] 111 65;go_enter func127,ntmps127;go_upto_region 1 with fail
 refine Av (λu=>Ae (qp w u v)) ⟨I.1,I.2.1,I.2.2⟩ ?_;rintro U d;clear I;have C:=d.body.cell 14;simp only[BN.cells]at C;simp only[HN.o,T.o]at C;go_wp2_with fail;clear C;go_loopw [10] (λi wr=>∃k:Nat,k<= ↑r.cv/\i=iZ k/\Ae (qp w wr v/\∀l∈r.cv.take k,A5 p fi xs r.a7 l 0)) (λi _=> ↑r.cv-(intOf i).toNat)
 case atStart=>exact⟨0,oM,rfl,d, λl B=>by simp at B⟩
 case round=>
 clear d;obtain⟨k,hk,rfl,d⟩:=hrel;by_cases aq:k< ↑r.cv
 case neg=>
  have D:=d.1.ia.cell 0;have E:=d.1.ia.cell 1;have G:=d.1.ia.cell 2;have f0:=d.1.ia.frozen 0;have f1:=d.1.ia.frozen 1;have f2:=d.1.ia.frozen 2;simp only[lQ,lO,lS]at D E G;have HA:Ae (∀l∈r.cv,A5 p fi xs r.a7 l 0):=by
   have:=d.2;rw[mm (show ↑r.cv<=k from oM)]at this
   exact this
  go_wp2;exact mM (v:=Ap #[An #[iZ 0,sN,sN],false]) (by simp[results,results127,go_sem,D,E,G]) rfl ⟨⟨0,⟨M,0,0⟩,⟨M,0,0⟩,false,rfl,(λh=>by cases h), λ_=>HA.o⟩,(((d.1.cq.setCell oS _).setCell oS _).setCell oS _)⟩
 have aG:(k:Int)<(r.cv:Int):=oM;obtain⟨l,B⟩:∃l,r.cv[k]?=K l:=⟨_,an aq⟩;have t:=H.av d.1.cq;obtain⟨gl,ol,s,A,g,j,V,i0,i1,i2,Q⟩:=Jv t.ls B;rw[T]at V;subst V;have L:=Aw (lN B Q);obtain⟨h,m,O,_,W⟩:=t.loop (lP B) (y:=⟨g,l.a7,j⟩) Q.2;have aj:=Aw W;rw[O]at i0;have HH:=Aw O;clear W B Q t O;generalize l.back.length=z at i1 L;go_upto_region 4 with fail
 have E4:Ae (qp w (Ac wr (Ak #[h,Z s z A,Z g l.a7 j] 65)) v/\Ay (Ac wr (Ak #[h,Z s z A,Z g l.a7 j] 65)) wr #[h,Z s z A,Z g l.a7 j] 65/\Ah wr wr (Ac wr (Ak #[h,Z s z A,Z g l.a7 j] 65))):=⟨d.1.av (Al _ _),Ay.new _ _ _,Al _ _⟩
 refine Av (λu=>Ae (qp w u v/\Ay u wr #[h,Z s z A,Z g l.a7 j] 65/\Ah wr wr u)) E4 ?_
 rintro U4 E5;clear E4 i0 i1 i2;generalize hX:wr.heap.size=X at E5⊢;obtain⟨p0,p1,p2,p3,p4,p5,p6,p7,p8,p9,au,ax,aA,aE,C⟩:=CW E5.1.body;obtain⟨l0,l1,l2⟩:=CI E5.2.1;go_wp2_with fail;refine(Ix v h ⟨s,z,A⟩ ⟨g,l.a7,j⟩ p fi F xs l m U4 (aj.av (hX▸E5.2.2))).mono ?_;rintro e u5 ⟨⟨nn,rfl,ae⟩,N⟩;have f:=Aw (lN (E5.1.av N) (E5.2.1.av N));have S:Ae (A5 p fi xs r.a7 l nn):=by rw[<-H.eb];exact ae
 clear ae N E5 p0 p1 p2 p3 p4 p5 p6 p7 p8 p9 au ax aA aE C l0 l1 l2;by_cases P:nn=0
 . subst P;go_wp2;go_roundw;case rel=>
    refine⟨k+1,oM,by go_num,f.1, λR aa=> ?_⟩;rw[List.take_add_one,L.1]at aa;rcases mA.1 aa with q|q
    . exact d.2 R q
    simp at q;rw[q];exact S
   case measure=>exact oI
 have aF:(nn==0)=false:=by simp[P]
 obtain⟨l0,l1,l2⟩:=CI f.2;have D:=f.1.ia.cell 0;have E:=f.1.ia.cell 1;have G:=f.1.ia.cell 2;have f0:=f.1.ia.frozen 0;have f1:=f.1.ia.frozen 1;have f2:=f.1.ia.frozen 2;simp only[lQ,lO,lS]at D E G;go_wp2;exact mM (v:=Ap #[An #[h,Z s z A,Z g l.a7 j],true]) (by simp[results,results127,go_sem,D,E,G]) rfl ⟨⟨(h:Int),⟨s,z,A⟩,⟨g,l.a7,j⟩,true,rfl, λ_=>⟨k,l,nn,L.1,HH,P,S,d.2⟩, λh=>(by cases h)⟩,(((f.1.cq.setCell oS _).setCell oS _).setCell oS _)⟩
theorem LR(v:BN)(p:MP)(fi:Int)(F:List (MB×J))(xs:List MI)(r:DQ)(w:Y)(q:T8 w v p fi F xs r):
 Ai Aq 127 #[An v.cells] w λe d=>(∃(h:Int) (x y:EJ) (b:Bool),e=Am (Ap #[An #[h,Z x.a x.n x.c,Z y.a y.n y.c],b])/\(b=true->∃l∈r.cv,∃k,k≠0/\A5 p fi xs r.a7 l k)/\(b=false->∀l∈r.cv,A5 p fi xs r.a7 l 0))/\Ah w w d:=
 (Hm v p fi F xs r w q).mono λe d ⟨⟨h,x,y,b,f,g,j⟩,m⟩=>⟨⟨h,x,y,b,f, λe=>(by obtain⟨k,l,n,s,_,t,u,_⟩:=g e;exact⟨l,lP s,n,t,u⟩),j⟩,m⟩
theorem SG{w a:Y}{o:Nat}{v:J}(d:w.grownBy a (K b))(h:w ⟨g,o,M⟩=K v)(f:g≠b):a ⟨g,o,M⟩=K v:=by have c:=lT h;unfold World.cell? at h⊢;rw[d.block g c (λe=>f (by cases e;rfl))];exact h
theorem Ay.apart{w c:Y}{a:Array J}{t:Aj}(h:Ay w b a t)(f:w.grownBy c (K g))(j:b≠g):Ay c b a t:=by have d:=h.lt;unfold Ay at h⊢;rw[f.block b d (λe=>j (by cases e;rfl))];exact h
theorem Sb(b:Nat)(a:Option Addr)(c:Nat)(ks:List Int)(w:Y)(R:ks.length<=1048576)(hw:∀z∈ks,Fa z)(n:Rd w 1 (Z a ks c) ks (Ad At ks))(v:∀g o,a=K ⟨g,o,M⟩->0<ks.length->g≠b)(h:AQ w b 0 (.map [])):
 Ai Aq 59 #[.map (K b),Z a ks c] w λe F=>e=Am (.tuple #[])/\(∃l D,AQ F b l D/\∀z:Int,Go.Maps.has D (.int Af z)=decide (z∈ks))/\w.grownBy F (K b):=by
 have H:=Aw (lN hw (lN n (lN v h)));clear hw n v h;go_enter func59,ntmps59;go_wp2;go_loopw [8] (λi wr=>∃k:Nat,k<= ↑ks/\i=.int Af k/\Ae (∃D,AQ wr b k D/\(∀z:Int,Go.Maps.has D (.int Af z)=decide (z∈ks.take k))/\w.grownBy wr (K b))) (λi _=> ↑ks-(intOf i).toNat)
 case atStart=>exact⟨0,oM,rfl,.map [],H.2.2.2, λz=>by simp;rfl,⟨rfl,rfl,rfl,Nat.le_refl _, λ_ _ _=>rfl⟩⟩
 obtain⟨k,n,rfl,s⟩:=hrel;obtain⟨D,f,C,A⟩:=s.o;have d:=Aw (lN C A);clear s C A;by_cases O:k< ↑ks
 . have P:(k:Int)<(ks:Int):=oM;obtain⟨z,j⟩:∃z,ks[k]?=K z:=⟨_,an O⟩;obtain⟨g,o,u,t⟩:∃g o,a=K ⟨g,o,M⟩/\w ⟨g,o+k,M⟩=K (iZ z):=by
    rcases H.2.1.2 with⟨q,_⟩|⟨g,o,c',m,N⟩
    . omega
    simp only[lU,mj]at m;exact⟨g,o,m.1,N k _ (EW j)⟩
   have m:=SG d.2 t (H.2.2.1 g o u oM);subst u;have Q:=H.1 z (lP j);have p:wr.ownsMap Aq 2 (unitElem (H:=Unit)) b k D:=f;have L:=Aw j;clear j f t;go_wp2_with (at_mapUpdate;refine wpList_mapUpdate_own _ rfl _ _ _ 164 rfl 2 89 EX underlying164 (unitElem (H:=Unit)) b k D rfl p oX _ _ _ rfl rfl (og underlying2 Q) _ [] unitElem_mk ?_;intro G E B);have I:Ae (∃D,AQ G b (k+1) D/\(∀z:Int,Go.Maps.has D (.int Af z)=decide (z∈ks.take (k+1)))/\w.grownBy G (K b)):=by refine⟨_,E, λy=> ?_,d.2.trans B⟩;rw[Ep D (oD p),d.1 y,List.take_add_one,L.o,pN];simp
   clear E B p;go_wp2;go_roundw;(case rel=>exact⟨k+1,oM,by go_num,I⟩);exact oI
 have P:¬(k:Int)<(ks:Int):=oM;have r:Ae ((∃l D,AQ wr b l D/\∀z:Int,Go.Maps.has D (.int Af z)=decide (z∈ks))/\w.grownBy wr (K b)):=by refine⟨⟨k,D,f, λz=> ?_⟩,d.2⟩;rw[d.1 z,mm (show ↑ks<=k from oM)]
 clear f;go_wp2;go_end0;exact⟨rfl,r.1,r.2⟩
def Jj(v:BN)(c s:J):Array J:=#[Z v.r.a v.r.n v.r.c,Z v.k.a v.k.n v.k.c,Z v.f.a v.f.n v.f.c,Z v.t.a v.t.n v.t.c,Z v.p.a v.p.n v.p.c,v.rs,Z v.l.a v.l.n v.l.c,Z v.c.a v.c.n v.c.c,v.nu,v.co,v.at_,Z v.b.a v.b.n v.b.c,Z v.o.a v.o.n v.o.c,Z v.i.a v.i.n v.i.c,Z v.q.a v.q.n v.q.c,c,s]
structure CG(u:Y)(B CB:Nat)(v:BN)(n gC cC gS cS:Nat)(I:List Nat)(C:List Int):Prop where
 eI:Ay u CB (Jj v (sG gC n cC) (sG gS n cS)) 256
 co:Ab u B 2 1 (sG gC n cC) n (Ad At C)
 st:Ab u B 2 1 (sG gS n cS) n (nv I)
 ne:gC≠gS
 lc: ↑C=n
 li: ↑I=n
 cc:∀y∈C,Kh y
 ii:∀b∈I,b<n
 bl:B<=CB
section
variable {u u':Y} {B CB:Nat} {v:BN} {n gC cC gS cS:Nat} {I:List Nat} {C:List Int}
theorem CG.av(h:CG u B CB v n gC cC gS cS I C)(a:Ah u u u'):CG u' B CB v n gC cC gS cS I C:={h with eI:=h.eI.av a,co:=AD h.co a lR,st:=AD h.st a lR}
theorem CG.lF(h:CG u B CB v n gC cC gS cS I C)(a:c<n):u ⟨gC,c,M⟩=K ↑(cf C c):=by have:=oW h.co c oM;rw[EW (Wt (by rw[h.lc];exact a))]at this;exact this
theorem tu(h:b< ↑I):I[b]?=K (jf I b):=by rw[an h];exact congrArg K (px (an h)).symm
theorem CG.k6(h:CG u B CB v n gC cC gS cS I C)(c:b<n):u ⟨gS,b,M⟩=K ↑(jf I b:Int)/\jf I b<n:=by have a:=tu (I:=I) (b:=b) (by rw[h.li];exact c);have:=oW h.st b oM;rw[Q7 a]at this;exact⟨this,h.ii _ (lP a)⟩
theorem CG.cells(h:CG u B CB v n gC cC gS cS I C):u ⟨CB,11,M⟩=K (Z v.b.a v.b.n v.b.c)/\u ⟨CB,12,M⟩=K (Z v.o.a v.o.n v.o.c)/\u ⟨CB,15,M⟩=K (sG gC n cC)/\u ⟨CB,16,M⟩=K (sG gS n cS):=⟨by rw[h.eI.cell];rfl,by rw[h.eI.cell];rfl,by rw[h.eI.cell];rfl,by rw[h.eI.cell];rfl⟩
end
structure sg(w:Y)(v:BN)(n:Nat)(E:Nat->List Nat)(R:List Nat)(pl:Nat->Nat):Prop where
 gr:∃gb ob,v.b.a=K ⟨gb,ob,M⟩/\v.b.n=n/\RZ w gb ob n E
 eb:∀b,b<n->∀x∈E b,x<n
 sz:∀b,(E b).length<=1024
 od:∃go oo,v.o.a=K ⟨go,oo,M⟩/\v.o.n= ↑R/\∀k y:Nat,R[k]?=K y->w ⟨go,oo+k,M⟩=K ↑(y:Int)
 rb:∀y∈R,y<n
 rl:R.length<=1024
 p1:∀b,b<n->R[pl b]?=K b
 p2:∀(k b:Nat),R[k]?=K b->pl b=k
theorem sg.av{w u:Y}{v:BN}{n:Nat}{R:List Nat}{b:Nat->Nat}(h:sg w v n E R b)(a:Ah w w u):sg u v n E R b:=by obtain⟨gb,p,d,e,f⟩:=h.gr;obtain⟨c,q,j,l,m⟩:=h.od;exact{h with gr:=⟨gb,p,d,e,f.av a⟩,od:=⟨c,q,j,l, λk y g=>Az a (m k y g)⟩}
structure Sa(w u:Y)(SB h:Nat)(x:EJ)(ka:Option Addr)(kc:Nat)(ks:List Int)(n gL:Nat)(L:List Int):Prop where
 set:∃cnt D,AQ u SB cnt D/\∀z:Int,Go.Maps.has D (.int Af z)=decide (z∈ks)
 lb:Ay u w #[h,Z x.a x.n x.c,Z ka ks kc] 65
 row:Ab u w 2 1 (Z gL n n) n (Ad At L)
 cq:Ah w w u
 lt: ↑w<gL
 ns:SB≠gL
section
variable {w u u':Y} {SB h:Nat} {x:EJ} {ka:Option Addr} {kc:Nat} {ks:List Int} {n gL:Nat} {L:List Int}
theorem Sa.av(H:Sa w u SB h x ka kc ks n gL L)(a:Ah u.heap.size u u'):Sa w u' SB h x ka kc ks n gL L:=by obtain⟨b,D,s1,s2⟩:=H.set;exact⟨⟨b,D,s1.av a,s2⟩,H.lb.av a,AD H.row a lR,Ar H.cq lR a,H.lt,H.ns⟩
theorem Sa.put(H:Sa w u SB h x ka kc ks n gL L)(k:Nat)(y:Int):Sa w (Aa u ⟨gL,k,M⟩ (.int Af y)) SB h x ka kc ks n gL (L.set k y):=by obtain⟨c,D,s1,s2⟩:=H.set;obtain⟨b,d⟩:=pF H.row k y;rw[Pd]at b;have:=H.lt;exact⟨⟨c,D,World.ownsMap.kept s1 d (by simp only[ne_eq,lX];exact H.ns),s2⟩,H.lb.other (a:=⟨gL,k,M⟩) oS _,b,H.cq.setCell oS _,H.lt,H.ns⟩
theorem Sa.at_(H:Sa w u SB h x ka kc ks n gL L)(f: ↑L=n)(d:c<n):u ⟨gL,c,M⟩=K ↑(cf L c)/\u.frozen? ⟨gL,c,M⟩=false:=by have a:=oW H.row c oM;rw[EW (Wt (by rw[f];exact d))]at a;obtain⟨_,b,e⟩:=AZ H.row;exact⟨a,frozen_of_row u gL c b _ e⟩
end
def uf(w:Y)(n:Nat)(E:Nat->List Nat)(ks:List Int)(I:List Nat)(C:List Int)(h:Nat)(d:Nat->Nat)(e:Ending)(a:Y):Prop:=∃(gL:Nat) (L:List Int) (small:Bool),e=Am (.tuple #[sG gL n n,small])/\(small=true->(∀c,c<n->a ⟨gL,c,M⟩=K ↑(cf L c))/\∀y∈L,Kh y)/\qy E n (λb=>decide ((b:Int)∈ks)) I C h d L small/\Ah w w a
structure Z1(w u:Y)(v:BN)(a e:Nat)(nx:J):Prop where
 body:Ay u w v.cells 111
 eI:Ay u ((w:Nat)+1) #[a,e,nx] 97
 cq:Ah w w u
theorem Z1.av{w u c:Y}{v:BN}{a e:Nat}{nx:J}(h:Z1 w u v a e nx)(b:Ah u u c):Z1 w c v a e nx:=⟨h.body.av b,h.eI.av b,Ar h.cq lR b⟩
def BcR(w:Y)(xs:List MI)(costs:List Int)(m:MB)(e:Ending)(a:Y):Prop:=(∃s b,e=Am (Ap #[iZ s,Ao b])/\(b=true->¬FF xs costs m/\s=Cm xs costs m)/\(b=false->FF xs costs m))/\Ah w w a
theorem M9(v:BN)(nx:J)(xs:List MI)(costs:List Int)(m:MB)(ca:Option Addr)(cc:Nat)(w:Y)(hn:xs.length<=1024)(hc:Rd w 4 (Z v.c.a v.c.n v.c.c) xs (Ad MI.cells xs))(aF: ↑xs<=v.c.c)(bB:costs.length<=1048576)(hk:Rd w 1 (Z ca costs cc) costs (Ad At costs))(aM:∀x∈xs,x.op=28->0<=x.a)(hm:∃a e:Nat,m.cz=(a:Int)/\m.last=(e:Int)/\a<=e/\e< ↑xs):
 Ai Aq 162 #[An v.cells,An #[m.cz,m.last,nx],Z ca costs cc] w (BcR w xs costs m):=by
 obtain⟨a,e,m1,m2,aE,aZ⟩:=hm;obtain⟨d,aI⟩:∃d,e=a+d:=⟨e-a,oM⟩;have l:=Aw aI;clear aI;have HM:=Aw (lN m1 m2);rw[m1,m2];clear m1 m2 aE;have au:Ae (∀op,0<=XF op):= λop=>XG op (Hq op)
 have HK:=Aw (lN hk aM);clear hk aM;rcases hc.2 with⟨q0,_⟩|⟨gc,P,aX,q1,T⟩
 . omega
 simp only[lU]at q1;have HC:Ae (∀(u:Y),Ah w w u->∀(k:Nat) (x:MI),xs[k]?=K x->u ⟨gc,P+k*4,M⟩=K (iZ x.op)/\u ⟨gc,P+k*4+1,M⟩=K (iZ x.a)/\u ⟨gc,P+k*4+2,M⟩=K (iZ x.b)/\u ⟨gc,P+k*4+3,M⟩=K (iZ x.c)):= λu O k x r=>by have V:=Rd.elem MI.bW T k x r 0 _ rfl;have H:=Rd.elem MI.bW T k x r 1 _ rfl;have I:=Rd.elem MI.bW T k x r 2 _ rfl;have L:=Rd.elem MI.bW T k x r 3 _ rfl;rw[<-O.cell (lT V),mL]at V;rw[<-O.cell (lT H)]at H;rw[<-O.cell (lT I)]at I;rw[<-O.cell (lT L)]at L;exact⟨V,H,I,L⟩
 have HQ:=Aw (lN q1.1 q1.2.1);clear T hc q1 aX;generalize aG:v.c.c=cap at aF;have aS:=Aw aG;clear aG;have E0:Ae (Z1 w (Ac (Ac w (Ak v.cells 111)) (Ak #[a,e,nx] 97)) v a e nx):=⟨(Ay.new _ _ _).av (Al _ _),by have:=Ay.new (Ac w (Ak v.cells 111)) #[a,e,nx] 97;rw[oQ]at this;exact this,Ar (Al _ _) lR (Al _ _)⟩;generalize aQ:xs.length=n at hn aZ aF HQ;have aW:=Aw aQ;clear aQ;go_enter func162,ntmps162;go_upto_region 1 with fail
 refine Av (λu=>Ae (Z1 w u v a e nx)) E0 ?_;rintro U g;clear E0;have p7:=g.body.cell 7;simp only[BN.cells]at p7;simp only[HQ.1,HQ.2,aS.o]at p7;obtain⟨b0,b1,b2⟩:=CI g.eI;have aE:a<=e:=by have:=l.o;omega
 have bi:IntKind.i64.wrap ((e:Int)+1)=((e+1:Nat):Int):=by rw[pZ _ ⟨oM,oM⟩];omega
 go_upto_region 3 with fail
 have aK:e+1-a=d+1:=by have:=l.o;omega
 rw[aK];generalize aJ:P+a*4=W;have aH:d+1<=cap-a:=by have:=l.o;omega
 generalize cap-a=cp at aH⊢;have HO:=Aw aJ;have aR:Ae (∀(u:Y),Ah w w u->∀(j:Nat) (x:MI),xs[a+j]?=K x->u ⟨gc,W+j*4,M⟩=K (iZ x.op)/\u ⟨gc,W+j*4+1,M⟩=K (iZ x.a)/\u ⟨gc,W+j*4+2,M⟩=K (iZ x.b)/\u ⟨gc,W+j*4+3,M⟩=K (iZ x.c)):= λu O j x r=>by
  have e:W+j*4=P+(a+j)*4:=by rw[<-HO];omega
  rw[e];exact HC.o u O (a+j) x r
 clear aJ HO HC aK p7 b0 b1 b2 bi;generalize aA:d+1=S at aH⊢;have C:=Aw aA;clear aA;have bq:S<=1048576:=by have:=C.o;have:=l.o;omega
 go_loopw [6,7,8,10,22] (λ_ _ s _ i wr=>∃(j:Nat) (c0:Int),j<=S/\s=iZ c0/\i=iZ j/\Ae (Z1 w wr v a e nx/\Kh c0/\(∀t x,t<j->xs[a+t]?=K x->OK costs x)/\c0=FH xs costs a j)) (λ_ _ _ _ i _=>S-(intOf i).toNat)
 case atStart=>exact⟨0,0,oM,rfl,rfl,g,⟨oM,oM⟩, λt x ht=>absurd ht (Nat.not_lt_zero _),rfl⟩
 case round=>
 clear g;obtain⟨j,c0,hj,rfl,rfl,g⟩:=hrel;by_cases bH:j<S;case neg=>
  obtain rfl:j=d+1:=by have:=C.o;omega
  have Q:Ae (Cm xs costs m=c0):=by show Cm xs costs m=c0;unfold Cm;rw[HM.1,HM.2,lV,lV,g.2.2.2,show e+1-a=d+1 by have:=l.o;omega]
  have aT:Ae (¬FF xs costs m):= λhB=>by
   rcases hB with⟨t,x,H,I,L,i4⟩|hB
   . rw[HM.1]at H;rw[HM.2]at I;exact i4 (g.2.2.1 (t-a) x (by have:=l.o;omega) (by rw[show a+(t-a)=t from oM];exact L))
   rw[Q]at hB;have:=g.2.1.2;omega
  go_wp2_with fail;exact mM (v:=Ap #[c0,true]) (by simp[results,results162,go_sem]) rfl ⟨⟨c0,true,rfl, λ_=>⟨aT,Q.symm⟩, λh=>by cases h⟩,g.1.cq⟩
 have bI:(j:Int)<(S:Int):=oM;obtain⟨x,r⟩:∃x,xs[a+j]?=K x:=⟨_,an (by rw[aW];have:=C.o;have:=l.o;omega)⟩;obtain⟨V,H,I,L⟩:=aR.o wr g.1.cq j x r;have D:=Aw r;clear r;go_upto_region 5 with fail
 have E5:Ae (Z1 w (Ac wr (Ak #[iZ x.op,iZ x.a,iZ x.b,iZ x.c] 25)) v a e nx/\Ay (Ac wr (Ak #[iZ x.op,iZ x.a,iZ x.b,iZ x.c] 25)) wr #[iZ x.op,iZ x.a,iZ x.b,iZ x.c] 25):=⟨g.1.av (Al _ _),Ay.new _ _ _⟩
 generalize wr.heap.size=X at E5⊢;refine Av (λu=>Ae (Z1 w u v a e nx/\Ay u X #[iZ x.op,iZ x.a,iZ x.b,iZ x.c] 25)) E5 ?_
 rintro U5 E6;clear E5 V H I L;obtain⟨d0,d1,d2,d3⟩:=Cv E6.2;go_wp2_with fail;refine(P5 x.op U5).mono ?_;rintro e u3 ⟨rfl,bb⟩;obtain⟨si,f,fo,aj,aY⟩:=Hq x.op;rw[aj];have bG:=QU si f fo;have ai:=Aw (XH aj);have A:=Aw (lN (E6.1.av bb) (E6.2.av bb));clear bb E6 d0 d1 d2 d3 aj;obtain⟨d0,d1,d2,d3⟩:=Cv A.2;obtain⟨bu,bx⟩:=aY;have br:=g.2.1.1;have bt:=g.2.1.2;by_cases F:x.op=28;case neg=>
  have bJ:(x.op==28)=false:=by simpa using F
  go_wp2_with fail;refine(GL (c0+f) u3).mono ?_;rintro e u4 ⟨rfl,rfl⟩;by_cases E:c0+f<=4294967295
  . rw [decide_eq_true (show 0<=c0+f/\c0+f<=4294967295 from⟨oM,E⟩)]
    go_wp2_with fail;go_roundw;case rel=>
     refine⟨j+1,c0+f,oM,rfl,by go_num,A.1,⟨oM,E⟩, λt y ht G=> ?_,?_⟩
     . by_cases e:t=j
       . subst e;rw[D]at G;(cases G);exact λq=>absurd q F
       exact g.2.2.1 t y oM G
     (have h9:FH xs costs a (j+1)=FH xs costs a j+Gm costs x:=by simp only[FH,D.o]);rw[h9,<-g.2.2.2];unfold Gm;rw[lY F,ai];omega
    case measure=>exact oI
  rw[nC (show¬(0<=c0+f/\c0+f<=4294967295)from λh=>E h.2)]
  have B:=Aw (FF.jJ au HM.1 HM.2 (k:=j) (by have:=C.o;have:=l.o;omega) (d:=c0+f) (.inr ⟨x,D,by have:=C.o;have:=l.o;omega,by rw[<-g.2.2.2,ai];exact Int.le_refl _⟩) oM oM);go_wp2_with fail;exact mM (v:=Ap #[iZ 0,false]) (by simp[results,results162,go_sem]) rfl ⟨⟨0,false,rfl,(λh=>by cases h), λ_=>B.o⟩,A.1.cq⟩
 have aO:=HK.2 x (lP D) F;obtain⟨p,aq⟩:=mJ aO;clear aO;have N:=Aw (lN F aq);have Q:Ae (¬OK costs x->FF xs costs m):= λhq=>.inl ⟨a+j,x,by rw[HM.1];omega,by rw[HM.2];have:=C.o;have:=l.o;omega,D,hq⟩
 rw[aq]at d1;rw[F]at d0;clear F aq;go_wp2_with fail;refine(A6 (p:Int) (costs:Int) u3).mono ?_;rintro e u4 ⟨rfl,rfl⟩;by_cases aa:p< ↑costs
 case neg=>
  rw[nC (show¬(0<=(p:Int)/\(p:Int)<(costs:Int))from λh=>aa oM)]
  have B:=Aw (Q.o λh=>by have:=(h N.1).1;rw[N.2,lV]at this;exact aa this);go_wp2_with fail;exact mM (v:=Ap #[iZ 0,false]) (by simp[results,results162,go_sem]) rfl ⟨⟨0,false,rfl,(λh=>by cases h), λ_=>B.o⟩,A.1.cq⟩
 rw[decide_eq_true (show 0<=(p:Int)/\(p:Int)<(costs:Int)from⟨oM,oM⟩)]
 obtain⟨z,hz⟩:∃z,costs[p]?=K z:=⟨_,an aa⟩;obtain⟨ga,oa,ea,kz⟩:∃ga oa,ca=K ⟨ga,oa,M⟩/\u4 ⟨ga,oa+p,M⟩=K ↑z:=by
  have:=Rd.av HK.1 A.1.cq lR;rcases this.2 with⟨e0,_⟩|⟨g1,o1,bj,e1,hc⟩
  . omega
  simp only[lU,mj]at e1;exact⟨g1,o1,e1.1,hc p _ (EW hz)⟩
 subst ea;have R:Ae (cf costs x.a.toNat=z/\x.a.toNat< ↑costs):=⟨by rw[N.2,lV];exact Kt hz,by rw[N.2,lV];exact aa⟩
 have bC:(p:Int)<(costs:Int):=oM;clear hz;go_wp2_with fail;refine(GL z u4).mono ?_;rintro e u5 ⟨rfl,rfl⟩;by_cases ae:0<=z/\z<=4294967295
 case neg=>rw[nC ae];have B:=Aw (Q.o λh=>ae (by have:=(h N.1).2;rw[R.1]at this;exact this));go_wp2_with fail;exact mM (v:=Ap #[iZ 0,false]) (by simp[results,results162,go_sem]) rfl ⟨⟨0,false,rfl,(λh=>by cases h), λ_=>B.o⟩,A.1.cq⟩
 rw[decide_eq_true ae];obtain⟨bf,bg⟩:=ae;have ax:Ae (FH xs costs a (j+1)=c0+f+z):=by
  have h9:FH xs costs a (j+1)=FH xs costs a j+Gm costs x:=by simp only[FH,D.o]
  show FH xs costs a (j+1)=c0+f+z;rw[h9,<-g.2.2.2];unfold Gm;rw[mE N.1,ai.o,R.1];omega
 go_wp2_with fail;refine(GL (c0+f+z) u5).mono ?_;rintro e u6 ⟨rfl,rfl⟩;by_cases E:c0+f+z<=4294967295
 . rw [decide_eq_true (show 0<=c0+f+z/\c0+f+z<=4294967295 from⟨oM,E⟩)]
   go_wp2_with fail;go_roundw;case rel=>
    refine⟨j+1,c0+f+z,oM,rfl,by go_num,A.1,⟨oM,E⟩, λt y ht G=> ?_,ax.symm⟩;by_cases e:t=j
    . subst e;rw[D]at G;(cases G);exact λ_=>⟨R.2,by rw[R.1];exact bf,by rw[R.1];exact bg⟩
    exact g.2.2.1 t y oM G
   case measure=>exact oI
 rw[nC (show¬(0<=c0+f+z/\c0+f+z<=4294967295)from λh=>E h.2)]
 have B:=Aw (FF.jJ au HM.1 HM.2 (k:=j+1) (by have:=C.o;have:=l.o;omega) (d:=c0+f+z) (.inl (by rw[ax];exact Int.le_refl _)) oM oM);go_wp2_with fail;exact mM (v:=Ap #[iZ 0,false]) (by simp[results,results162,go_sem]) rfl ⟨⟨0,false,rfl,(λh=>by cases h), λ_=>B.o⟩,A.1.cq⟩
def Wj(xs:List MI)(a:List MB)(b:Nat):Prop:=∃m x,a[b]?=K m/\xs[m.last.toNat]?=K x/\x.op=29
theorem ND(v:BN)(F:List (MB×J))(xs:List MI)(w:Y)(E:JI w v F xs)(aF:∀z∈F,∃a n c,z.2=Z a n c)(hc:Rd w 4 (Z v.c.a v.c.n v.c.c) xs (Ad MI.cells xs)):
 Ai Aq 167 #[An v.cells] w λe w'=>∃(a:Option Addr) (c:Nat) (d:List Int),e=Am (Z a d c)/\Rd w' 1 (Z a d c) d (Ad At d)/\(∀z,z∈d↔∃b:Nat,z=(b:Int)/\b< ↑F/\Wj xs (F.map Prod.fst) b)/\d.length<=1024/\Ah w w w':=by
 obtain⟨k0,hk,aM,aO,aQ⟩:=nE Ct;have H:=Aw (lN E (lN aF hc));have aS:F.length<=1024:=E.len;have bf:xs.length<=1024:=E.top;obtain⟨D,bc,S⟩:=E.rd.aD;simp only[lU]at S;have aH:=Aw S.2.1;clear E aF hc S D bc;obtain⟨D,ax⟩:∃D,v.b.a=D:=⟨_,rfl⟩;have ae:=Aw ax;clear ax;have E0:Ae (Ay (Ac w (Ak v.cells 111)) w v.cells 111/\Ah w w (Ac w (Ak v.cells 111))):=⟨Ay.new _ _ _,Al _ _⟩
 go_enter func167,ntmps167;go_upto_region 1 with fail
 refine Av (λu=>Ae (Ay u w v.cells 111/\Ah w w u)) E0 ?_
 rintro U C;clear E0;have aa:=C.1.cell 11;simp only[BN.cells]at aa;simp only[aH.o,ae.o]at aa;go_wp2_with fail;clear aa;go_loopw [3,10] (λs i wr=>∃(k:Nat) (d:List Int),k<= ↑F/\i=iZ k/\Ae (Ab wr U 2 1 s d (Ad At d)/\(∀z,z∈d↔∃b:Nat,z=(b:Int)/\b<k/\Wj xs (F.map Prod.fst) b)/\ ↑d<=k/\Ah U U wr)) (λ_ i _=> ↑F-(intOf i).toNat)
 case atStart=>exact⟨0,[],oM,rfl,mX _ _ _ _, λz=>⟨λe=>(by cases e), λ⟨b,_,h,_⟩=>absurd h (Nat.not_lt_zero _)⟩,sP,mP _ _⟩
 case round=>
 obtain⟨k,d,aR,rfl,f⟩:=hrel;by_cases aI:k< ↑F
 case neg=>obtain⟨O,P,T⟩:=AF f.1;subst T;go_wp2_with fail;go_ret;refine⟨O,P,d,rfl,Rd.eP f.1, λz=> ?_,by have:=f.2.2.1;omega,Ar C.2 lR f.2.2.2⟩;rw[f.2.1 z];obtain rfl:k=F.length:=oM;exact Iff.rfl
 have aT:(k:Int)<(F:Int):=oM;obtain⟨m,g,o,y,q,nx,V,eg,en,W,i1,i2,e1,R,aW,aJ,au⟩:=H.1.at aI;obtain⟨A,nn,B,aq⟩:=H.2.1 _ (lP au);simp only[]at aq;subst aq;obtain⟨x,L⟩:∃x,xs[q]?=K x:=⟨_,an aJ⟩;rcases H.2.2.2 with⟨q0,_⟩|⟨gc,oc,cc,N,aA⟩
 . omega
 simp only[lU]at N;have r:=Rd.elem MI.bW aA q x L 0 _ rfl;rw[mL]at r;have aj:Ae (Wj xs (F.map Prod.fst) k↔x.op=29):=⟨λ⟨m',x',l,t,p⟩=>by
  rw[V]at l;cases l
  rw[R,lV,L]at t;cases t
  exact p, λh=>⟨m,x,V,by rw[R,lV];exact L,h⟩⟩
 have G:=Aw (Ar C.2 lR f.2.2.2);have Q:=Aw (lN r (lN N.1 N.2.1));rw[<-G.cell (lT W)]at W;rw[<-G.cell (lT i1)]at i1;rw[<-G.cell (lT i2)]at i2;obtain rfl:D=K ⟨g,o,M⟩:=by rw[<-ae];exact eg
 obtain⟨O,P,T⟩:=AF f.1;subst T;have aX:(q:Int)<(xs:Int):=oM;clear r N aA V L e1 R au;go_upto_region 5 with fail
 have E5:Ae (Ay (Ac wr (Ak #[y,q,Z A nn B] 97)) w v.cells 111/\Ay (Ac wr (Ak #[y,q,Z A nn B] 97)) wr #[y,q,Z A nn B] 97/\Ab (Ac wr (Ak #[y,q,Z A nn B] 97)) U 2 1 (Z O d P) d (Ad At d)/\Ah U U (Ac wr (Ak #[y,q,Z A nn B] 97))):=⟨(C.1.av f.2.2.2).av (Al _ _),Ay.new _ _ _,f.1.alloc _,f.2.2.2.alloc f.2.2.2.size _⟩
 generalize wr.heap.size=X at E5⊢;refine Av (λu=>Ae (Ay u w v.cells 111/\Ay u X #[y,q,Z A nn B] 97/\Ab u U 2 1 (Z O d P) d (Ad At d)/\Ah U U u)) E5 ?_
 rintro U5 j;clear E5 W i1 i2 G;have b1:=j.2.1.cell 1;simp only[lQ,lO,lS]at b1;have p7:=j.1.cell 7;simp only[BN.cells]at p7;simp only[Q.2.1,Q.2.2]at p7;have r:=Q.1;rw[<-(Ar C.2 lR j.2.2.2).cell (lT r)]at r;by_cases I:x.op=29
 . rw [I]at r;have aZ:=f.2.2.1;go_wp2_with (at_builtin;refine wpList_append_own _ rfl _ _ 27 rfl U 2 k0 (iZ 0) 1 8 underlying27 hk aM aO aQ rfl dC _ d (Ad At d) rfl (j.2.2.1.alloc _) U5 1 1 [k] rfl rfl (Go.cell_one_new _ _ _) (λu hu=>by simp at hu;subst hu;rfl) oX oM (by have:=j.2.2.2.size;simp;omega) ?_;intro v' w3 aG aE aK);have ai:Ae (Ab w3 U 2 1 v' (d++[(k:Int)]).length (Ad At (d++[(k:Int)]))/\Ah U U w3):=by have o1:=j.2.2.1;refine⟨?_,(j.2.2.2.alloc j.2.2.2.size _).grown aE (by have:=j.2.2.2.size;simp;omega) (λi hi=>(o1.lt i hi).1)⟩;rw[mW,mB];exact aG
   clear aG aE aK;go_roundw;case rel=>
    refine⟨k+1,d++[(k:Int)],oM,by go_num,ai.1, λz=> ?_,by rw[mB];simp;omega,ai.2⟩;rw[mA,f.2.1 z];simp only[lW,lZ,mS];constructor
    . rintro(⟨b,l,t,p⟩|rfl)
      . exact⟨b,l,oM,p⟩
      exact⟨k,rfl,oM,aj.2 I⟩
    rintro⟨b,l,t,p⟩;by_cases e:b=k
    . exact .inr (by rw[l,e])
    exact .inl ⟨b,l,oM,p⟩
   case measure=>exact oI
 have aY:(x.op==29)=false:=by simpa using I
 go_wp2_with fail;go_roundw;case rel=>
  refine⟨k+1,d,oM,by go_num,j.2.2.1, λz=> ?_,by have:=f.2.2.1;omega,j.2.2.2⟩;rw[f.2.1 z];constructor
  . rintro⟨b,l,t,p⟩;exact⟨b,l,oM,p⟩
  rintro⟨b,l,t,p⟩;refine⟨b,l,?_,p⟩;by_cases e:b=k
  . subst e;exact absurd (aj.1 p) I
  omega
 case measure=>exact oI
theorem Ra(d:Nat)(h:Int)(x:EJ)(a:Option Addr)(c:Nat)(b:List Int)(z:Int)(w:Y)(l:b.length<=1048576)(f:Ay w d #[h,Z x.a x.n x.c,Z a b c] 65)(g:Rd w 1 (Z a b c) b (Ad At b)):
 Ai Aq 206 #[z,.pointer d] w λe m=>AM e (¬z∈b)/\m=w:=by
 obtain⟨p,r,s⟩:=CI f;have H:=Aw g;clear f g;go_enter func206,ntmps206;go_wp2_with fail;refine(Fd a c b z w l H).mono ?_;rintro e u ⟨⟨q,rfl,j⟩,rfl⟩;have k:=Aw j;clear j;go_wp2;go_ret;exact⟨.of (by rw[<-k.o];cases q<;>simp),rfl⟩
theorem SJ(s:Option Addr)(D:Nat)(d:List Int)(l:Nat)(h:Int)(x:EJ)(a:Option Addr)(c:Nat)(f:List Int)(w:Y)(Q:f.length<=1048576)(v:Ay w l #[h,Z x.a x.n x.c,Z a f c] 65)(m:Rd w 1 (Z a f c) f (Ad At f))(U:d.length<=1048576)(B:Rd w 1 (Z s d D) d (Ad At d)):
 Ai Aq 211 #[Z s d D,.func (.func 206) #[] #[.pointer l]] w λe R=>(∃n:Int,e=Am n/\(0<=n↔∃z∈d,¬z∈f))/\R=w:=by
 have H:=Aw (lN v (lN m B));clear v m B;go_enter func211,ntmps211;go_wp2;go_loopw [8] (λi wr=>∃k:Nat,k<= ↑d/\i=iZ k/\Ae (∀z∈d.take k,z∈f)/\wr=w) (λi _=> ↑d-(intOf i).toNat)
 case atStart=>exact⟨0,oM,rfl, λz j=>by simp at j,rfl⟩
 case round=>
 obtain⟨k,m,rfl,r,rfl⟩:=hrel;by_cases P:k< ↑d
 case pos=>
  have T:(k:Int)<(d:Int):=oM;obtain⟨z,j⟩:∃z,d[k]?=K z:=⟨_,an P⟩;obtain⟨g,o,I,S⟩:∃g o,s=K ⟨g,o,M⟩/\wr ⟨g,o+k,M⟩=K (iZ z):=by
   rcases H.2.2.2 with⟨q,_⟩|⟨g,o,c',u,O⟩
   . omega
   simp only[lU,mj]at u;exact⟨g,o,u.1,O k _ (EW j)⟩
  subst I;have t:=Aw j;clear j;go_wp2_with fail;refine(Ra l h x a c f z wr Q H.1 H.2.1).mono ?_;rintro e V ⟨⟨b,rfl,A⟩,rfl⟩;have p:=Aw A;clear A;cases b
  case true=>have G:Ae (∃z∈d,¬z∈f):=⟨z,lP t,p.1 rfl⟩;go_wp2;go_ret;exact⟨⟨(k:Int),rfl, λ_=>G.o, λ_=>oM⟩,rfl⟩
  case false=>
   have F:Ae (∀z∈d.take (k+1),z∈f):= λy C=>by
    rw[List.take_add_one,t]at C;rcases mA.1 C with q|q
    . exact r.o y q
    simp at q;subst q;exact mr λq=>by have:=p.2 q;cases this
   go_wp2;go_roundw;(case rel=>exact⟨k+1,oM,by go_num,F,by trivial⟩);exact oI
 have E:Ae (¬∃z∈d,¬z∈f):= λ⟨z,L,N⟩=>N (r.o z (by rw[mm (show ↑d<=k from oM)];exact L))
 go_wp2;go_ret;exact⟨⟨-1,rfl, λe=>absurd e dC, λe=>absurd e E.o⟩,rfl⟩
theorem St(s:Option Addr)(g:Nat)(b:List Int)(f:Nat)(h:Int)(x:EJ)(a:Option Addr)(c:Nat)(d:List Int)(w:Y)(r:d.length<=1048576)(j:Ay w f #[h,Z x.a x.n x.c,Z a d c] 65)(l:Rd w 1 (Z a d c) d (Ad At d))(q:b.length<=1048576)(k:Rd w 1 (Z s b g) b (Ad At b)):
 Ai Aq 207 #[Z s b g,.func (.func 206) #[] #[.pointer f]] w λe t=>AM e (∃z∈b,¬z∈d)/\t=w:=by
 have H:=Aw (SJ s g b f h x a c d w r j l q k);clear j l k;go_enter func207,ntmps207;go_wp2_with fail;refine H.mono ?_;rintro e u ⟨⟨n,rfl,m⟩,rfl⟩;have p:=Aw m;clear m;go_wp2;go_ret;exact⟨.of (by simpa using p.o),rfl⟩
def R6(a:List MB)(c:List Int)(b:Nat):Prop:=∃m,a[b]?=K m/\∃t∈m.next,¬t∈c
theorem QY(v:BN)(F:List (MB×J))(N:Nat)(h:Nat)(x:EJ)(y:Option Addr)(A:Nat)(d:List Int)(w:Y)(D:JI w v F N)(aq:∀z∈F,Yq w z.2 z.1/\z.1.next.length<=1048576)(hn:d.length<=1024)(hk:Rd w 1 (Z y d A) d (Ad At d))(hz:∀z∈d,∃b:Nat,z=(b:Int)/\b< ↑F):
 Ai Aq 195 #[An v.cells,An #[h,Z x.a x.n x.c,Z y d A]] w λe w'=>∃(a:Option Addr) (c:Nat) (j:List Int),e=Am (Z a j c)/\Rd w' 1 (Z a j c) j (Ad At j)/\(∀z,z∈j↔z∈d/\R6 (F.map Prod.fst) d z.toNat)/\j.length<=1024/\Ah w w w':=by
 obtain⟨k0,aH,aJ,aK,aM⟩:=nE Ct;have H:=Aw (lN D (lN aq (lN hk hz)));have aR:F.length<=1024:=D.len;obtain⟨t,bc,E⟩:=D.rd.aD;simp only[lU]at E;have aA:=Aw E.2.1;clear D aq hk hz E t bc;obtain⟨t,aa⟩:∃t,v.b.a=t:=⟨_,rfl⟩;have P:=Aw aa;clear aa;have O:=Bw w v.cells #[h,Z x.a x.n x.c,Z y d A] 111 65;go_enter func195,ntmps195;go_upto_region 1 with fail
 refine Av (λu=>Ae (Ay u w v.cells 111/\Ay u ((w:Nat)+1) #[h,Z x.a x.n x.c,Z y d A] 65/\Ah w w u)) O ?_
 rintro U r;clear O;obtain⟨l0,l1,l2⟩:=CI r.2.1;go_wp2_with fail;clear l0 l1 l2;go_loopw [6,13] (λs i wr=>∃(k:Nat) (j:List Int),k<= ↑d/\i=iZ k/\Ae (Ab wr U 2 1 s j (Ad At j)/\(∀z,z∈j↔z∈d.take k/\R6 (F.map Prod.fst) d z.toNat)/\ ↑j<=k/\Ah U U wr)) (λ_ i _=> ↑d-(intOf i).toNat)
 case atStart=>exact⟨0,[],oM,rfl,mX _ _ _ _, λz=>sP,sP,mP _ _⟩
 case round=>
 obtain⟨k,j,aQ,rfl,f⟩:=hrel;by_cases ai:k< ↑d
 case neg=>
  obtain⟨sa,sc,G⟩:=AF f.1;subst G;have HP:Ae (∀z,z∈j↔z∈d/\R6 (F.map Prod.fst) d z.toNat):= λz=>by rw[f.2.1 z,mm (show ↑d<=k from oM)]
  go_wp2_with fail;go_ret;exact⟨sa,sc,j,rfl,Rd.eP f.1,HP,by have:=f.2.2.1;omega,Ar r.2.2 lR f.2.2.2⟩
 have aS:(k:Int)<(d:Int):=oM;have B:=Aw (Ar r.2.2 lR f.2.2.2);obtain⟨b,W,hb⟩:=H.2.2.2 d[k] (pS ai);have L:d[k]?=K (b:Int):=by rw[an ai,W]
 obtain⟨kg,ko,aG,e0⟩:∃g o,y=K ⟨g,o,M⟩/\wr ⟨g,o+k,M⟩=K ↑b:=by
  rcases(Rd.av H.2.2.1 B lR).2 with⟨q,_⟩|⟨g,o,c',C,hc⟩
  . omega
  simp only[lU,mj]at C;exact⟨g,o,C.1,hc k _ (EW L)⟩
 subst aG;obtain⟨m,g,o,ma,me,nx,hm,T,en,i0,i1,i2,C,e2,aT,aW,X⟩:=(H.1.av B).at hb;obtain⟨I,aj⟩:=H.2.1 _ (lP X);obtain⟨na,nc,V⟩:=Rd.aD I;simp only[]at V aj;subst V;obtain rfl:t=K ⟨g,o,M⟩:=by rw[<-P];exact T
 have HM:=Aw (lN L (lN hm (Rd.av I B lR)));have aO:(b:Int)<(F:Int):=oM;obtain⟨sa,sc,G⟩:=AF f.1;subst G;have ax:=(r.1.av f.2.2.2).cell 11;simp only[BN.cells]at ax;simp only[aA.o,P.o]at ax;have aF:=Aw (r.2.1.av f.2.2.2);have aE:=Aw (Rd.av H.2.2.1 B lR);clear L hm I X W C e2 T en i0 i1;go_wp2_with fail;refine(St na nc m.next ((w:Nat)+1) (h:Int) x (K ⟨kg,ko,M⟩) A d wr oM aF aE aj HM.2.2).mono ?_;rintro e u1 ⟨⟨q,rfl,hq⟩,rfl⟩;have R:Ae (q=true↔R6 (F.map Prod.fst) d b):=hq.trans ⟨λh=>⟨m,HM.2.1,h⟩, λ⟨m',l,p⟩=>by
  rw[HM.2.1]at l;cases l
  exact p⟩
 clear hq;have Q:Ae (∀z,z∈d.take (k+1)↔z∈d.take k\/z=(b:Int)):= λz=>by rw[List.take_add_one,HM.1,mA];simp
 cases q
 case true=>
  have aX:=f.2.2.1;go_wp2_with (at_builtin;refine wpList_append_own _ rfl _ _ 27 rfl U 2 k0 (iZ 0) 1 8 underlying27 aH aJ aK aM rfl dC _ j (Ad At j) rfl (f.1.alloc _) u1 1 1 [b] rfl rfl (Go.cell_one_new _ _ _) (λu hu=>by simp at hu;subst hu;rfl) oX oM (by have:=f.2.2.2.size;simp;omega) ?_;intro v' w3 au ae aI);have S:Ae (Ab w3 U 2 1 v' (j++[(b:Int)]).length (Ad At (j++[(b:Int)]))/\Ah U U w3):=by have o1:=f.1;refine⟨?_,(f.2.2.2.alloc f.2.2.2.size _).grown ae (by have:=f.2.2.2.size;simp;omega) (λi hi=>(o1.lt i hi).1)⟩;rw[mW,mB];exact au
  clear au ae aI;go_roundw;case rel=>
   refine⟨k+1,j++[(b:Int)],oM,by go_num,S.1, λz=> ?_,by rw[mB];simp;omega,S.2⟩;rw[mA,f.2.1 z,Q.o z];simp only[lW,lZ,mS];constructor
   . rintro(⟨l,p⟩|rfl)
     . exact⟨.inl l,p⟩
     exact⟨.inr rfl,R.1 (by trivial)⟩
   rintro⟨l|l,p⟩
   . exact .inl ⟨l,p⟩
   exact .inr l
  case measure=>exact oI
 case false=>
  go_wp2_with fail;go_roundw;case rel=>
   refine⟨k+1,j,oM,by go_num,f.1, λz=> ?_,by have:=f.2.2.1;omega,f.2.2.2⟩;rw[f.2.1 z,Q.o z];constructor
   . rintro⟨l,p⟩;exact⟨.inl l,p⟩
   rintro⟨l|l,p⟩
   . exact⟨l,p⟩
   subst l;have:=R.2 p;cases this
  case measure=>exact oI
def KT(x y:Int):Int:=if x<y then -1 else if y<x then 1 else 0
theorem TI(x:Int)(w:Y):Ai Aq 202 #[x] w λe a=>e=Am false/\a=w:=by go_enter func202,ntmps202;go_wp2;go_ret;exact⟨rfl,rfl⟩
theorem Ux(x y:Int)(w:Y):Ai Aq 190 #[x,y] w λe h=>e=Am (KT x y)/\h=w:=by
 have b:=Aw (TI x);have c:=Aw (TI y);unfold KT;by_cases d:x<y
 . rw[mE d];go_enter func190,ntmps190;go_wp2_with fail;refine(b.o w).mono ?_;rintro e u ⟨rfl,rfl⟩;go_wp2_with fail;refine(c.o u).mono ?_;rintro e f ⟨rfl,rfl⟩;go_wp2_with fail;go_ret;exact⟨rfl,rfl⟩
 rw[lY d];by_cases a:y<x
 . rw[mE a];have g:x>y:=a;go_enter func190,ntmps190;go_wp2_with fail;refine(b.o w).mono ?_;rintro e u ⟨rfl,rfl⟩;go_wp2_with fail;refine(c.o u).mono ?_;rintro e f ⟨rfl,rfl⟩;go_wp2_with fail;go_ret;exact⟨rfl,rfl⟩
 rw[lY a];have g:¬x>y:=a;go_enter func190,ntmps190;go_wp2_with fail;refine(b.o w).mono ?_;rintro e u ⟨rfl,rfl⟩;go_wp2_with fail;refine(c.o u).mono ?_;rintro e f ⟨rfl,rfl⟩;go_wp2_with fail;go_ret;exact⟨rfl,rfl⟩
theorem TJ(x:Int)(w:Y):Ai Aq 168 #[x] w λe a=>e=Am false/\a=w:=by go_enter func168,ntmps168;go_wp2;go_ret;exact⟨rfl,rfl⟩
theorem Uy(x y:Int)(w:Y):Ai Aq 191 #[x,y] w λe h=>e=Am (KT x y)/\h=w:=by
 have b:=Aw (TJ x);have c:=Aw (TJ y);unfold KT;by_cases d:x<y
 . rw[mE d];go_enter func191,ntmps191;go_wp2_with fail;refine(b.o w).mono ?_;rintro e u ⟨rfl,rfl⟩;go_wp2_with fail;refine(c.o u).mono ?_;rintro e f ⟨rfl,rfl⟩;go_wp2_with fail;go_ret;exact⟨rfl,rfl⟩
 rw[lY d];by_cases a:y<x
 . rw[mE a];have g:x>y:=a;go_enter func191,ntmps191;go_wp2_with fail;refine(b.o w).mono ?_;rintro e u ⟨rfl,rfl⟩;go_wp2_with fail;refine(c.o u).mono ?_;rintro e f ⟨rfl,rfl⟩;go_wp2_with fail;go_ret;exact⟨rfl,rfl⟩
 rw[lY a];have g:¬x>y:=a;go_enter func191,ntmps191;go_wp2_with fail;refine(b.o w).mono ?_;rintro e u ⟨rfl,rfl⟩;go_wp2_with fail;refine(c.o u).mono ?_;rintro e f ⟨rfl,rfl⟩;go_wp2_with fail;go_ret;exact⟨rfl,rfl⟩
theorem rJ(g:Nat)(a b r:Int)(w:Y)(n:w g=K ↑a)(p:w ⟨g,1,M⟩=K ↑b)(k:r=if a=0 then b else a):
 Ai Aq 189 #[Z g 2 2] w λe q=>e=Am r/\q=w:=by
 have f:=Aw k;clear k;go_enter func189,ntmps189;go_wp2_with fail;go_loopw [8] (λi wr=>wr=w/\(i=Ag Af 0\/i=Ag Af 1/\a=0\/i=Ag Af 2/\a=0/\b=0)) (λi _=>2-(intOf i).toNat)
 case atStart=>exact⟨rfl,.inl rfl⟩
 obtain⟨rfl,rfl|⟨rfl,c⟩|⟨rfl,c,j⟩⟩:=hrel
 . by_cases e:a=0
   . have h:=Aw e;rw[e]at n;clear e;go_wp2_with fail;go_roundw;(case rel=>exact⟨by trivial,.inr (.inl ⟨by trivial,h⟩)⟩);simp[intOf]
   (have m:(a==0)=false:=by simpa using e);(have d:r=a:=by rw[f,lY e]);subst d;go_wp2_with fail;go_ret;exact⟨rfl,rfl⟩
 . have h:=Aw c;by_cases e:b=0
   . have l:=Aw e;rw[e]at p;clear e c;go_wp2_with fail;go_roundw;(case rel=>exact⟨by trivial,.inr (.inr ⟨by trivial,h,l⟩)⟩);simp[intOf]
   (have m:(b==0)=false:=by simpa using e);(have d:r=b:=by rw[f,mE c]);clear c;subst d;go_wp2_with fail;go_ret;exact⟨rfl,rfl⟩
 have d:r=0:=by rw[f,mE c,j]
 clear c j f;subst d;go_wp2_with fail;go_ret;exact⟨rfl,rfl⟩
theorem qX(x y:LV):(if KT (x.yn:Int) (y.yn:Int)=0 then KT x.h y.h else KT (x.yn:Int) (y.yn:Int))=LV.cmp x y:=by
 unfold LV.cmp KT;by_cases a:x.yn<y.yn
 . have:(x.yn:Int)<(y.yn:Int):=oM;simp[a,this]
 have:¬(x.yn:Int)<(y.yn:Int):=oM;by_cases b:y.yn<x.yn
 . have:(y.yn:Int)<(x.yn:Int):=oM;simp[a,b]
 have:¬(y.yn:Int)<(x.yn:Int):=oM;simp[a,b]
theorem Ru(x y:LV)(W:Y):Ai Aq 188 #[An x.enc.toArray,An y.enc.toArray] W λe a=>e=Am (LV.cmp x y)/\∃q I,a=Go.Sort.grow (W.drewN q) I:=by
 have r:=qX x y;obtain⟨c,s,C,v,k,f,m⟩:=x;obtain⟨d,t,D,z,l,g,n⟩:=y;have N:Ae (∀w,Ai Aq 190 #[f,g] w λe a=>e=Am (KT (f:Int) (g:Int))/\a=w):= λw=>Ux _ _ w
 have O:Ae (∀w,Ai Aq 191 #[c,d] w λe a=>e=Am (KT c d)/\a=w):= λw=>Uy _ _ w
 simp only[]at r;generalize KT (f:Int) (g:Int)=c1 at N r;generalize KT c d=c2 at O r;generalize LV.cmp ⟨c,s,C,v,k,f,m⟩ ⟨d,t,D,z,l,g,n⟩=X at r⊢;have R:=Aw r.symm;clear r;simp only[LV.enc];have G:=Bw W #[c,Z s C v,Z k f m] #[d,Z t D z,Z l g n] 65 65;have L:Ae (∃os,Ac (Ac W (Ak #[c,Z s C v,Z k f m] 65)) (Ak #[d,Z t D z,Z l g n] 65)=Go.Sort.grow W os):=⟨_,by rw[Go.Sort.alloc_eq_grow,Go.Sort.alloc_eq_grow,Go.Sort.grow_grow]⟩;go_enter func188,ntmps188;go_upto_region 1 with fail
 refine Av (λu=>Ae ((Ay u W #[c,Z s C v,Z k f m] 65/\Ay u ((W:Nat)+1) #[d,Z t D z,Z l g n] 65)/\∃os,u=Go.Sort.grow W os)) ⟨⟨G.1,G.2.1⟩,L⟩ ?_
 rintro U F;clear G L;have E:Ae (Ay U.drew W #[c,Z s C v,Z k f m] 65/\Ay U.drew ((W:Nat)+1) #[d,Z t D z,Z l g n] 65):=⟨F.1.1.av (As _),F.1.2.av (As _)⟩
 have P:Ae (∃os,U.drew=Go.Sort.grow (W.drewN 1) os):=by obtain⟨os,e⟩:=F.2;exact⟨os,by rw[e];rfl⟩
 clear F;have H:∀a,Ay a W #[c,Z s C v,Z k f m] 65->Ay a ((W:Nat)+1) #[d,Z t D z,Z l g n] 65->a.cell? W=K ↑c/\a.cell? ⟨W,2,M⟩=K (Z k f m)/\a.cell? ⟨(W:Nat)+1,0,M⟩=K ↑d/\a.cell? ⟨(W:Nat)+1,2,M⟩=K (Z l g n):= λa A B=>⟨A.cell 0,A.cell 2,B.cell 0,B.cell 2⟩
 refine wp_region_held_drew (S:= λa=>a.cell? W=K ↑c/\a.cell? ⟨W,2,M⟩=K (Z k f m)/\a.cell? ⟨(W:Nat)+1,0,M⟩=K ↑d/\a.cell? ⟨(W:Nat)+1,2,M⟩=K (Z l g n)) kR (H _ E.1 E.2) (λj=> ?_)
 generalize U.drew=V at E P j⊢;refine AU 0 ?_;refine AU 1 ?_;refine AU 2 ?_;refine AU 3 ?_;refine AU 4 ?_;refine AU 5 ?_;refine AU 7 ?_;refine AU 8 ?_;refine AU 9 ?_ (hw:=kR);refine AU 10 ?_ (hw:=kR);refine DO 6 ?_;intro p b;rw[mE kR];go_simp;refine(N.o V).mono ?_;rintro e u3 ⟨rfl,rfl⟩;go_simp;refine b.o _ _ j (λj=> ?_);clear b p;refine DO 11 ?_;intro p b;rw[mE kR];go_simp;refine(O.o u3).mono ?_;rintro e Q ⟨rfl,rfl⟩;go_simp;refine b.o _ _ j (λj=> ?_);clear b p;refine DO 12 ?_;intro p b;rw[mE kR];go_simp;refine b.o _ _ (H _ (E.1.av (Al _ _)) (E.2.av (Al _ _))) (λj=> ?_);clear b p;refine DO 13 ?_;intro p b;rw[mE kR];go_simp;refine(rJ Q c1 c2 X _ ((Ay.new _ _ _).cell 0) ((Ay.new _ _ _).cell 1) R).mono ?_;rintro e u5 ⟨rfl,rfl⟩;go_simp;refine b.o _ _ j (λj=> ?_);clear b p;refine AU 14 ?_ (hw:=kR);refine wpAnyH_done kR ?_ _;clear j H;have T:Ae (∃q I,Ac Q (Ak #[c1,c2] 3)=Go.Sort.grow (W.drewN q) I):=by obtain⟨os,e⟩:=P.o;exact⟨1,_,by rw[e,Go.Sort.alloc_eq_grow,Go.Sort.grow_grow]⟩
 go_wp2;go_ret;exact⟨rfl,T⟩
structure Z3(w u:Y)(v:BN)(y:R7)(sv:J):Prop where
 body:Ay u w v.cells 111
 ty:Ay u ((w:Nat)+1) #[y.aU,y.at_,y.depth,sv] 209
 cq:Ah w w u
theorem Z3.av{w u c:Y}{v:BN}{y:R7}{b:J}(h:Z3 w u v y b)(a:Ah u u c):Z3 w c v y b:=⟨h.body.av a,h.ty.av a,Ar h.cq lR a⟩
theorem Uz(v:BN)(p:MP)(q:Nat)(f:MF)(y:R7)(s da:Option Addr)(l dc A:Nat)(D:List Int)(w:Y)(bG:p.aC.length<=1048576)(aO:AY p 0)(hf:p.aC[q]?=K f)(aQ:R8 w (Z v.f.a v.f.n v.f.c) p.aC)(I:Rd w 4 (Z v.c.a v.c.n v.c.c) f.aU (Ad MI.cells f.aU))(br:f.aU.length<=1024)(hy:sy w (Z s y.eC l) y.eC)(aW:y.eC.length= ↑f.aU)(hd:Rd w 1 (Z da A dc) A (Ad At D))(aK: ↑D=A)(aM:A= ↑p.aC):
 Ai Aq 130 #[An v.cells,An #[y.aU,y.at_,y.depth,Z s y.eC l],Z da A dc] w λe w'=>e=Am (IQ p f y D)/\Ah w w w':=by
 have B:=Bw w v.cells #[y.aU,y.at_,y.depth,Z s y.eC l] 111 209;obtain⟨_,_,aj⟩:=I.aD;simp only[lU]at aj;have bj:y.eC.length<=1024:=oM;have H:=Aw (lN aO (lN aQ (lN hf (lN hy (lN hd I)))));have t:=Aw (lN aW (lN aK (lN aM aj.2.1)));obtain⟨ca,aJ⟩:∃ca,v.c.a=ca:=⟨_,rfl⟩;have aG:=Aw aJ;clear aO aQ hf hy hd I aW aK aM aj aJ;obtain⟨k,aq⟩:∃k,y.eC.length=k:=⟨_,rfl⟩;have aY:=Aw aq;rw[aq]at B⊢bj;clear aq;go_enter func130,ntmps130;go_upto_region 1 with fail
 refine Av (λu=>Ae (Z3 w u v y (Z s k l))) ⟨B.1,B.2.1,B.2.2⟩ ?_;rintro U R;clear B;have z2:=(Cv R.ty).2.2.1;have p7:=R.body.cell 7;simp only[BN.cells]at p7;simp only[t.2.2.2,aG.o]at p7;go_wp2_with fail;clear z2 p7;go_loopw [7,18] (λm i wr=>∃(m0:Int) (j:Nat),m=iZ m0/\i=iZ j/\j<=f.aU.length/\Ae (m0=Ha p f.aU y.eC D y.depth j)/\Ae (Z3 w wr v y (Z s k l))) (λ_ i _=>f.aU.length-(intOf i).toNat)
 case atStart=>exact⟨y.depth,0,rfl,rfl,oM,rfl,R⟩
 case round=>
 clear R;obtain⟨N,j,rfl,rfl,hj,HM,E1⟩:=hrel;by_cases aR:j<f.aU.length;case neg=>obtain rfl:j=f.aU.length:=oM;have ai:N=IQ p f y D:=HM.o;clear HM;subst ai;go_wp2_with fail;go_ret;exact⟨rfl,E1.cq⟩
 have bB:(j:Int)<(f.aU.length:Int):=oM;obtain⟨x,hx⟩:∃x,f.aU[j]?=K x:=⟨_,an aR⟩;obtain⟨gi,oi,ci,ei,x0,x1,x2,x3⟩:=Xg (H.2.2.2.2.2.av E1.cq lR) hx;simp only[lU]at ei;obtain rfl:ca=K ⟨gi,oi,M⟩:=by rw[<-aG];exact ei.1
 have bf:Ae (x.op=28->∃(c:Nat) (fq:MF),x.a=c/\p.aC[c]?=K fq):= λe=>(H.1.iR H.2.2.1 hx).callee e
 have HX:=Aw hx;clear ei hx;go_upto_region 5 with fail
 have E4:Ae (Z3 w (Ac wr (Ak #[iZ x.op,iZ x.a,iZ x.b,iZ x.c] 25)) v y (Z s k l)/\Ay (Ac wr (Ak #[iZ x.op,iZ x.a,iZ x.b,iZ x.c] 25)) wr.heap.size #[iZ x.op,iZ x.a,iZ x.b,iZ x.c] 25):=⟨E1.av (Al _ _),Ay.new _ _ _⟩
 refine Av (λu=>Ae (Z3 w u v y (Z s k l)/\Ay u wr.heap.size #[iZ x.op,iZ x.a,iZ x.b,iZ x.c] 25)) E4 ?_
 rintro U4 E5;clear E4 x0 x1 x2 x3;generalize wr.heap.size=X at E5⊢;have i0:=(Cv E5.2).1;by_cases L:x.op=28;case neg=>
  have ai:Ae (N=Ha p f.aU y.eC D y.depth (j+1)):=by (have e:Ha p f.aU y.eC D y.depth (j+1)=Ha p f.aU y.eC D y.depth j:=by simp only[Ha,HX.o,lY L]);exact HM.trans e.symm
  have bC:(x.op==28)=false:=by simpa using L
  go_wp2_with fail;go_roundw;case rel=>exact⟨N,j+1,rfl,by go_num,oM,ai,E5.1⟩
  exact oI
 rw[L]at i0;obtain⟨d,fq,aF,ae⟩:=bf.o L;have aZ:=Aw aF;have bx:=(f7.1 ae).1;obtain⟨gk,ok,ck,aa,g,aS,n0,_,_,_⟩:=Kz H.2.1 ae;simp only[lU]at aa;obtain⟨h1,h3,h4,h6,h7,h9,rfl⟩:=GU aS;simp only[]at n0;have aH:=Aw (lN aa.1 aa.2.1);obtain⟨F,os,a1,sr,c1,es,aT,aA⟩:=rO H.2.2.2.1 (show j<y.eC.length by rw[t.1];exact aR);subst es;obtain⟨Q,aE⟩:∃Q,sr.length=Q:=⟨_,rfl⟩;rw[aE]at aA;obtain⟨P,ax⟩:∃P,fq.aP.length=P:=⟨_,rfl⟩;rw[ax]at n0;obtain⟨T,au⟩:∃z,D[d]?=K z:=⟨_,an (by have:=t.2;omega)⟩;obtain⟨E,O,ea,kz⟩:∃E O,da=K ⟨E,O,M⟩/\w.cell? ⟨E,O+d,M⟩=K (iZ T):=by
  rcases H.2.2.2.2.1.2 with⟨e0,_⟩|⟨g1,o1,bq,V,I⟩
  . have:=t.2.2.1;omega
  simp only[lU,mj]at V;exact⟨g1,o1,V.1,I d _ (EW au)⟩
 subst ea;obtain⟨d1,bg⟩:∃d1,IntKind.i64.wrap ((Q:Int)-(P:Int))=d1:=⟨_,rfl⟩;obtain⟨C,bi⟩:∃C,IntKind.i64.wrap (d1+T)=C:=⟨_,rfl⟩;have aX:Ae (Ha p f.aU y.eC D y.depth (j+1)=max N C):=by
  have V:WA p y.eC D j x=C:=by unfold WA;rw[aT,aF,lV,ae,Kt au];simp only[oz,aE,ax];rw[bg,bi]
  have e:Ha p f.aU y.eC D y.depth (j+1)=max (Ha p f.aU y.eC D y.depth j) (WA p y.eC D j x):=by simp only[Ha,HX.o,mE L]
  rw[<-HM,V]at e;exact e
 have bu:(d:Int)<(p.aC.length:Int):=oM;have bt:(d:Int)<(A:Int):=by have:=t.2.2.1;omega
 have bH:(j:Int)<(k:Int):=by have:=t.1;have:=aY.o;omega
 have HS:Ae (∀W:Y,Z3 w W v y (sO F os k l)->Ay W X #[x.op,x.a,x.b,x.c] 25->W ⟨(w:Nat)+1,3,M⟩=K (sO F os k l)/\W ⟨F,os+j,M⟩=K (Z a1 Q c1)/\W ⟨w,2,M⟩=K (sO gk ok p.aC v.f.c)/\W ⟨X,1,M⟩=K ↑d/\W ⟨gk,ok+d*4,M⟩=K (Z h1 P h3)/\W ⟨E,O+d,M⟩=K ↑T):= λW G hB=>by
  refine⟨(Cv G.ty).2.2.2,Az G.cq aA,?_,?_,Az G.cq n0,Az G.cq kz⟩
  . have:=G.body.cell 2;simp only[BN.cells]at this;simp only[aH.1,aH.2]at this;exact this
  have:=(Cv hB).2.1;rw[aZ]at this;exact this
 clear aT aE ax au ae aS aF aa n0 aA kz HM;go_upto_region 6 with fail
 have r:=Aw (lN (E5.1.av (As _)) (E5.2.av (As _)));refine wp_region_held_drew (S:= λW=>W ⟨(w:Nat)+1,3,M⟩=K (sO F os k l)/\W ⟨F,os+j,M⟩=K (Z a1 Q c1)/\W ⟨w,2,M⟩=K (sO gk ok p.aC v.f.c)/\W ⟨X,1,M⟩=K ↑d/\W ⟨gk,ok+d*4,M⟩=K (Z h1 P h3)/\W ⟨E,O+d,M⟩=K ↑T) kR (HS.o _ r.1 r.2) (λaI=> ?_)
 clear E5 i0;generalize U4.drew=UD at r aI⊢;refine AU 0 ?_;refine AU 1 ?_;refine AU 2 ?_;refine AU 3 ?_;refine AU 4 ?_;refine AU 5 ?_;refine AU 6 ?_;refine AU 7 ?_;refine AU 8 ?_;refine AU 9 ?_;refine AU 10 ?_;refine AU 11 ?_;refine AU 12 ?_;refine AU 13 ?_;refine AU 14 ?_;refine AU 15 ?_;refine AU 16 ?_;refine AU 17 ?_;refine wpAnyH_done kR ?_ _;go_simp;have ha:=(HS.o _ r.1 r.2).2.2.2.1;have hb:=(HS.o _ r.1 r.2).2.2.2.2.2;clear aI;go_wp2_with fail;go_roundw;case rel=>exact⟨max N C,j+1,rfl,by go_num,oM,aX.symm,r.1⟩
 exact oI
theorem PX.nn{n:Nat}{rt:Nat->Prop}{C:Nat->Int}{r:Int}(h:PX E n rt a C r):r=-1\/0<=r:=by
 rcases h with⟨h,_⟩|⟨s,_,m⟩
 . exact .inl h
 exact .inr m.nn
theorem PW.nn{n:Nat}{D L:Nat->Nat->Bool}{iv:Nat->Int}{rt:Nat->Prop}{b:List Nat}{C:Nat->Int}{r:Int}(h:PW E n D L iv rt b a C r):r=-1\/0<=r:=by
 induction h with
 |nil h=>exact h.nn
 |bad _=>exact .inl rfl
 |step _ _ c=>exact c
theorem GZ.nn{p:MP}{a:Int}{C:List Int}{v:Int}(h:GZ p a C v):v=-1\/0<=v:=by
 rcases h with⟨_,h⟩|⟨f,r,_,_,_,_,_,h⟩
 . exact .inl h
 rcases h with⟨_,h⟩|⟨_,_,_,_,_,_,_,_,_,h⟩
 . exact .inl h
 exact h.nn
theorem Ba.free{xs:List MI}{r:DQ}(h:Ba xs r)(a:r.aU=0):Bd xs/\∃x,xs[xs.length-1]?=K x/\IY x=false:=by
 cases h with
 |good g x1 o1=>exact⟨g,_,x1,o1⟩
 |_=>simp[Hc]at a
theorem ZN{w:Y}{v:VP}{p:MP}{n:Nat}{f:MF}{g:VF}{r:DQ}(m:p.small)(l:AY p 0)(h:Eb w v p)(d:p.aC[n]?=K f)(t:FD w g f)(s:Ba f.aU r)(q:r.aU=0):P6 w v p g f:=by
 obtain⟨b,A,y,j⟩:=s.free q;refine⟨m,l,m.func f (lP d),h,t,b.1,b.2.1,b.2.2, λx a=> ?_, λk x a u=> ?_⟩
 . obtain⟨k,c⟩:=nB a;exact l.iR d c
 have z:=(f7.1 a).1;refine mr λe=> ?_
 have c:k= ↑f.aU-1:=oM
 rw[c,y]at a;obtain rfl:=mD a;rw[u]at j;cases j
theorem KP.low{u:Y}{base:Nat}{s:J}{F:List (List Int×J)}(h:KP u base s F){a:Addr}(b:a.block<base)(x:J):KP (u.setCell a x) base s F:=⟨mY h.row b x,⟨λy c=>mY (h.fg.own y c) b x,h.fg.sep⟩⟩
theorem RF(v:BN)(p:MP)(f:MF)(r:DQ)(w:Y)(V:P6 w ⟨Z v.r.a v.r.n v.r.c,Z v.k.a v.k.n v.k.c,Z v.f.a v.f.n v.f.c,Z v.t.a v.t.n v.t.c⟩ p ⟨Z v.p.a v.p.n v.p.c,Z v.l.a v.l.n v.l.c,Z v.c.a v.c.n v.c.c⟩ f)(T:v.rs=f.cu)(Q:Ba f.aU r)(P:r.aU=0)(R:JL w (Z v.b.a v.b.n v.b.c) (Z v.o.a v.o.n v.o.c) (Z v.i.a v.i.n v.i.c) (Z v.q.a v.q.n v.q.c) r):
 Ai Aq 241 #[An #[],An v.cells] w λe w'=>∃(y:R7) (h:Option Addr) (j:Nat),e=Am (An #[y.aU,y.at_,y.depth,Z h y.eC j])/\y=RE f.aU (J6 p f r.a7 (r.dr.map Int.toNat) Wb)/\(∃(B:Nat) (F:List (List Int×J)), ↑w<=B/\KP w' B (Z h y.eC j) F/\F.map Prod.fst=y.eC)/\Ah w w w':=by
 have H:=Aw (lN V (lN T (lN Q (lN P R))));clear V T Q P R;have m:=Gw w #[] v.cells #[iZ 0,iZ 0,iZ 0,sN] 90 111 209;go_enter func241,ntmps241;go_upto_region 1 with fail
 refine Av (λu=>Ae (Ay u ((w:Nat)+1) v.cells 111/\Ay u ((w:Nat)+1+1) #[iZ 0,iZ 0,iZ 0,sN] 209/\Ah w w u)) ⟨m.2.1,m.2.2.1,m.2.2.2⟩ ?_
 rintro U g;clear m;obtain⟨p0,p1,p2,p3,p4,X,p6,p7,p8,p9,ae,ai,aj,aq,au⟩:=CW g.1;rw[H.2.1]at X;go_wp2_with fail;clear p0 p1 p2 p3 p4 X p6 p7 p8 p9 ae ai aj aq au;refine(RG U ⟨Z v.r.a v.r.n v.r.c,Z v.k.a v.k.n v.k.c,Z v.f.a v.f.n v.f.c,Z v.t.a v.t.n v.t.c⟩ p ⟨Z v.p.a v.p.n v.p.c,Z v.l.a v.l.n v.l.c,Z v.c.a v.c.n v.c.c⟩ f r v.co v.at_ (Z v.b.a v.b.n v.b.c) (Z v.o.a v.o.n v.o.c) (Z v.i.a v.i.n v.i.c) (Z v.q.a v.q.n v.q.c) (H.1.av g.2.2) H.2.2.1 H.2.2.2.1 (H.2.2.2.2.kY g.2.2 lR)).mono ?_;rintro e u1 ⟨s,F,rfl,E,z,_,_,D⟩;generalize W:RE f.aU (J6 p f r.a7 (r.dr.map Int.toNat) Wb)=y at z⊢;have S:OO u1 s y.eC:=z▸E.rd;obtain⟨h,j,es⟩:∃a c,s=Z a y.eC c:=by obtain⟨_,_,h2,_⟩:=S;exact h2.aD
 subst es;have C:=Aw (lN W (lN z E));have d:=Aw (lN (g.2.1.av D) (lN (Ar g.2.2 lR D) g.2.1.lt));have aa:=g.2.2.size;clear W z S E D g;obtain⟨I,L,N,O⟩:=Cv d.1;have f0:=d.1.frozen 0;have f1:=d.1.frozen 1;have f2:=d.1.frozen 2;have f3:=d.1.frozen 3;go_wp2_with fail;have G:Ae _:=(((d.1.set 0 y.aU).set 1 y.at_).set 2 y.depth).set 3 (Z h y.eC j);simp only[mO,mi,mh]at G;clear I L N O;obtain⟨I,L,N,O⟩:=Cv G;have A:=d.2.2;exact mM (v:=An #[y.aU,y.at_,y.depth,Z h y.eC j]) (by simp[results,results241,go_sem,I,L,N,O]) rfl ⟨y,h,j,rfl,C.1.symm,⟨U,F,aa,(((C.2.2.low (a:=⟨(w:Nat)+1+1,0,M⟩) A y.aU).low (a:=⟨(w:Nat)+1+1,1,M⟩) A y.at_).low (a:=⟨(w:Nat)+1+1,2,M⟩) A y.depth).low (a:=⟨(w:Nat)+1+1,3,M⟩) A (Z h y.eC j),C.2.1⟩,(((d.2.1.setCell (by show(w:Nat)<= ↑w+1+1;omega) _).setCell (by show(w:Nat)<= ↑w+1+1;omega) _).setCell (by show(w:Nat)<= ↑w+1+1;omega) _).setCell (by show(w:Nat)<= ↑w+1+1;omega) _⟩
end Go.Proofs.YtkgohaigebcgoaaGreatDoor
