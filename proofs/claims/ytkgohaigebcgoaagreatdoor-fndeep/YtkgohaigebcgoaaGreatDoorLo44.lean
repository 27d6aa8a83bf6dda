import Derived.Test.YtkgohaigebcgoaaGreatDoorLo43
namespace Go.Proofs.YtkgohaigebcgoaaGreatDoor
open Go.ChangeShapes Go.WideShapes Go.ChangeAt Go.RowKit Go.Proofs.Tryz
set_option linter.unusedVariables false
open Go.Value renaming slice → Z,bool → Ao,int → Ag,agg → An,tuple → Ap
open Option renaming some → K,none → M
open Go renaming World → Y,Calls → Ai,Value → J,TypeId → Aj
open Go.RowKit renaming Hid → Ae,Below → Ah
open Go.Ending renaming returned → Am
open Go.Proofs.Tryz renaming prog → Aq
open List renaming flatMap → Ad
open Go.IntKind renaming i64 → Af
open Go.Obj renaming cells → Ak
open Go.World renaming alloc → Ac,setCell → Aa,ownsRow → Ab
set_option maxHeartbeats 8000000
set_option maxRecDepth 100000
variable {b g c:Nat}{a:Nat->Nat}{E:Nat->List Nat}
theorem GP(z:Int)(w:Y):Ai Aq 187 #[z] w λe d=>e=Am (Ao (decide (0<=z/\z<=4294967295)))/\d=w:=by
 by_cases a:0<=z
 . by_cases c:z<=4294967295
   . rw[decide_eq_true ⟨a,c⟩];have b:z>=0:=a;go_enter func187,ntmps187;go_wp2_with fail;go_ret;exact⟨rfl,rfl⟩
   rw[kj (λh=>c h.2)];have b:z>=0:=a;go_enter func187,ntmps187;go_wp2_with fail;go_ret;exact⟨rfl,rfl⟩
 rw[kj (λh=>a h.1)];have b:¬z>=0:=a;go_enter func187,ntmps187;go_wp2_with fail;go_ret;exact⟨rfl,rfl⟩
structure RwS(w:Y)(n gS gB:Nat)(I:List Nat)(L:List Int):Prop where
 st:∀b,b<n->w ⟨gS,b,M⟩=K ↑(jf I b:Int)/\jf I b<n
 su:∀c,c<n->w ⟨gB,c,M⟩=K ↑(cf L c)
theorem Ho(p n x N v G:Nat)(I:List Nat)(L:List Int)(a:Option Addr)(c:Nat)(d:List Int)(w:Y)(hn:n<=1048576)(W:w ⟨p,16,M⟩=K (sG x n N))(A:RwS w n x v I L)(hl:d.length<=1048576)(B:Rd w 1 (Z a d c) d (Ad As d))(j:∀z∈d,∃b:Nat,z=(b:Int)/\b<n):
 Ai Aq 166 #[.pointer p,sG v n G,Z a d c] w λe U=>∃m,e=Am (iZ m)/\U=w/\EX (λb=>cf L (jf I b)) (λb=>(b:Int)∈d) m:=by
 have H:=Aw (fd A (fd B j));clear A B j;go_enter func166,ntmps166;go_wp2_with fail;go_loopw [7,12] (λm i wr=>∃(k:Nat) (f:Int),k<= ↑d/\m=iZ f/\i=iZ k/\wr=w/\Ae (EX (λb=>cf L (jf I b)) (λb=>(b:Int)∈d.take k) f)) (λ_ i _=> ↑d-(intOf i).toNat)
 case atStart=>exact⟨0,0,oM,rfl,rfl,rfl,EX.none (λb j=>by simp at j)⟩
 obtain⟨k,f,hk,rfl,rfl,rfl,HM⟩:=hrel;by_cases C:k< ↑d
 case neg=>go_wp2_with fail;go_ret;exact⟨f,rfl,rfl,by have:=HM.o;rw[kP (show ↑d<=k from oM)]at this;exact this⟩
 have aa:(k:Int)<(d:Int):=oM;have l:d[k]?=K d[k]:=an C;obtain⟨b,u,P⟩:=H.2.2 d[k] (mu C);rw[u]at l;obtain⟨g,o,O,V⟩:∃g o,a=K ⟨g,o,M⟩/\wr ⟨g,o+k,M⟩=K ↑(b:Int):=by
  rcases H.2.1.2 with⟨q,_⟩|⟨g,o,c',t,Q⟩
  . omega
  simp only[i8,kW]at t;exact⟨g,o,t.1,Q k _ (Fc l)⟩
 subst O;obtain⟨T,D⟩:=H.1.st b P;have E:=H.1.su _ D;have X:(b:Int)<(n:Int):=oM;have R:(jf I b:Int)<(n:Int):=oM;have F:=Aw l;clear l u;have r:Ae (EX (λb=>cf L (jf I b)) (λb=>(b:Int)∈d.take (k+1)) (max f (cf L (jf I b)))):=HM.add λy=>by
  rw[List.take_add_one,F.o,jL];simp only[Option.toList,jK,jO,kM];constructor
  . rintro(h|h)
    . exact .inl h
    exact .inr oM
  rintro(h|rfl)
  . exact .inl h
  exact .inr rfl
 generalize S:cf L (jf I b)=y at E r;clear S;generalize jf I b=s at T D E R;go_wp2_with fail;go_roundw;case rel=>exact⟨k+1,max f y,oM,by trivial,by go_num,by trivial,r⟩
 exact oI
theorem Sn(r k f t h g cc b o i q:Fs)(rs co at_:Int)(n gk ok:Nat)(w:Y)(hn:n<f.n)
 (j:w ⟨gk,ok+n*4,M⟩=K (Z h.a h.n h.c)) (l:w ⟨gk,ok+n*4+1,M⟩=K ↑rs) (m:w ⟨gk,ok+n*4+2,M⟩=K (Z g.a g.n g.c)) (p:w ⟨gk,ok+n*4+3,M⟩=K (Z cc.a cc.n cc.c)):
 Ai Aq 32 #[An #[Z r.a r.n r.c,Z k.a k.n k.c,Z (K ⟨gk,ok,M⟩) f.n f.c,Z t.a t.n t.c],n,An #[co,at_,Z b.a b.n b.c,Z o.a o.n o.c,Z i.a i.n i.c,Z q.a q.n q.c]] w λe w'=>e=Am (An (BQ.cells ⟨r,k,⟨K ⟨gk,ok,M⟩,f.n,f.c⟩,t,h,rs,g,cc,(n:Int),co,at_,b,o,i,q⟩))/\Ah w w w':=by
 have s:=GG w #[Z r.a r.n r.c,Z k.a k.n k.c,Z (K ⟨gk,ok,M⟩) f.n f.c,Z t.a t.n t.c] #[co,at_,Z b.a b.n b.c,Z o.a o.n o.c,Z i.a i.n i.c,Z q.a q.n q.c] #[Z M 0 0,Z M 0 0,Z M 0 0,Z M 0 0,Z M 0 0,Ag Af 0,Z M 0 0,Z M 0 0,Ag Af 0,Ag Af 0,Ag Af 0,Z M 0 0,Z M 0 0,Z M 0 0,Z M 0 0] 40 61 111;have y:Ae (w ⟨gk,ok+n*4,M⟩=K (Z h.a h.n h.c)/\w ⟨gk,ok+n*4+1,M⟩=K ↑rs/\w ⟨gk,ok+n*4+2,M⟩=K (Z g.a g.n g.c)/\w ⟨gk,ok+n*4+3,M⟩=K (Z cc.a cc.n cc.c)):=⟨j,l,m,p⟩
 clear j l m p;unfold BQ.cells;go_enter func32,ntmps32;go_upto_region 1 with fail
 refine Av (λu=>Ae (Ay u w #[Z r.a r.n r.c,Z k.a k.n k.c,Z (K ⟨gk,ok,M⟩) f.n f.c,Z t.a t.n t.c] 40/\Ay u ((w:Nat)+1) #[co,at_,Z b.a b.n b.c,Z o.a o.n o.c,Z i.a i.n i.c,Z q.a q.n q.c] 61/\Ay u ((w:Nat)+1+1) #[Z M 0 0,Z M 0 0,Z M 0 0,Z M 0 0,Z M 0 0,Ag Af 0,Z M 0 0,Z M 0 0,Ag Af 0,Ag Af 0,Ag Af 0,Z M 0 0,Z M 0 0,Z M 0 0,Z M 0 0] 111/\Ah w w u)) s ?_
 rintro U E1;clear s;obtain⟨p0,p1,p2,p3⟩:=CP E1.1;obtain⟨y0,y1,y2,y3,y4,y5⟩:=Ut E1.2.1;obtain⟨j,l,m,p⟩:=y.o;rw[<-E1.2.2.2.cell (i7 j)]at j;rw[<-E1.2.2.2.cell (i7 l)]at l;rw[<-E1.2.2.2.cell (i7 m)]at m;rw[<-E1.2.2.2.cell (i7 p)]at p;have d:Ae (Ay U ((w:Nat)+1+1) #[Z M 0 0,Z M 0 0,Z M 0 0,Z M 0 0,Z M 0 0,Ag Af 0,Z M 0 0,Z M 0 0,Ag Af 0,Ag Af 0,Ag Af 0,Z M 0 0,Z M 0 0,Z M 0 0,Z M 0 0] 111):=E1.2.2.1;have R:=d.cell 0;have ae:=d.frozen 0;have S:=d.cell 1;have ai:=d.frozen 1;have z2:=d.cell 2;have aE:=d.frozen 2;have z3:=d.cell 3;have aF:=d.frozen 3;have z4:=d.cell 4;have aG:=d.frozen 4;have z5:=d.cell 5;have aH:=d.frozen 5;have z6:=d.cell 6;have aI:=d.frozen 6;have z7:=d.cell 7;have aJ:=d.frozen 7;have z8:=d.cell 8;have aK:=d.frozen 8;have z9:=d.cell 9;have aM:=d.frozen 9;have T:=d.cell 10;have aj:=d.frozen 10;have V:=d.cell 11;have aq:=d.frozen 11;have W:=d.cell 12;have au:=d.frozen 12;have X:=d.cell 13;have ax:=d.frozen 13;have aa:=d.cell 14;have aA:=d.frozen 14;simp only[i5,f8,i6]at R S z2 z3 z4 z5 z6 z7 z8 z9 T V W X aa;have aO:(n:Int)<(f.n:Int):=oM;have s1:¬gk= ↑w+1+1:=by have:=y.1;have:=i7 this;simp only[]at this;omega
 go_region;have G:Ae _:=(((((((((((((((d.set 0 (Z r.a r.n r.c)).set 1 (Z k.a k.n k.c)).set 2 (Z (K ⟨gk,ok,M⟩) f.n f.c)).set 3 (Z t.a t.n t.c)).set 4 (Z h.a h.n h.c)).set 5 rs).set 6 (Z g.a g.n g.c)).set 7 (Z cc.a cc.n cc.c)).set 8 n).set 9 co).set 10 at_).set 11 (Z b.a b.n b.c)).set 12 (Z o.a o.n o.c)).set 13 (Z i.a i.n i.c)).set 14 (Z q.a q.n q.c));simp only[kB,kX,kU]at G;refine Cm (λu=>Ae (Ay u ((w:Nat)+1+1) #[Z r.a r.n r.c,Z k.a k.n k.c,Z (K ⟨gk,ok,M⟩) f.n f.c,Z t.a t.n t.c,Z h.a h.n h.c,rs,Z g.a g.n g.c,Z cc.a cc.n cc.c,n,co,at_,Z b.a b.n b.c,Z o.a o.n o.c,Z i.a i.n i.c,Z q.a q.n q.c] 111/\Ah w w u)) ?_ ?_
 . exact⟨Ay.av (b:=(w:Nat)+1+1) (t:=111) G (At _),Ar (((((((((((((((E1.2.2.2.setCell oS _).setCell oS _).setCell oS _).setCell oS _).setCell oS _).setCell oS _).setCell oS _).setCell oS _).setCell oS _).setCell oS _).setCell oS _).setCell oS _).setCell oS _).setCell oS _).setCell oS _) lR (At _)⟩
 rintro U2 x;clear G d E1 p0 p1 p2 p3 y0 y1 y2 y3 y4 y5 j l m p R ae S ai z2 aE z3 aF z4 aG z5 aH z6 aI z7 aJ z8 aK z9 aM T aj V aq W au X ax aa aA s1;obtain⟨z,A,H,x3,I,L,N,O,P,Q,B,C,D,E,F⟩:=CY (v:=⟨r,k,⟨K ⟨gk,ok,M⟩,f.n,f.c⟩,t,h,rs,g,cc,(n:Int),co,at_,b,o,i,q⟩) x.1;simp only[]at z A H x3 I L N O P Q B C D E F;go_wp2;exact kA (v:=An #[Z r.a r.n r.c,Z k.a k.n k.c,Z (K ⟨gk,ok,M⟩) f.n f.c,Z t.a t.n t.c,Z h.a h.n h.c,rs,Z g.a g.n g.c,Z cc.a cc.n cc.c,n,co,at_,Z b.a b.n b.c,Z o.a o.n o.c,Z i.a i.n i.c,Z q.a q.n q.c]) (by simp[results,results32,go_sem,z,A,H,x3,I,L,N,O,P,Q,B,C,D,E,F]) rfl ⟨rfl,x.2⟩
structure Ug(w:Y)(v:BQ)(p:MP)(fi:Int)(F:List (MB×J))(xs:List MI)(r:Ee):Prop where
 bs:JQ w v F xs
 nx:∀z∈F,YP w z.2 z.1/\z.1.next.length<=1048576
 cd:Uh w v xs p.b8
 tn:p.bO.length<=1048576
 tr:Rd w 4 (Z v.t.a v.t.n v.t.c) p.bO (Ad MT.cells p.bO)
 nu:v.nu=fi
 eb:F.map Prod.fst=r.aC
 fh:pZ xs r
 ls:Sg w (Z v.q.a v.q.n v.q.c) r.cv
 ln:v.q.n= ↑r.cv
 od:Rd w 1 (Z v.o.a v.o.n v.o.c) r.dr (Ad As r.dr)
section
variable {w u:Y} {v:BQ} {p:MP} {fi:Int} {F:List (MB×J)} {xs:List MI} {r:Ee}
theorem Ug.av(H:Ug w v p fi F xs r)(a:Ah w w u):Ug u v p fi F xs r:=⟨H.bs.av a, λz b=>⟨(H.nx z b).1.av a lR,(H.nx z b).2⟩,H.cd.av a,H.tn,H.tr.av a lR,H.nu,H.eb,H.fh,H.ls.av a lR,H.ln,H.od.av a lR⟩
theorem Ug.fl(H:Ug w v p fi F xs r):F.length=r.aC.length:=by rw[<-H.eb,kC]
theorem Ug.loop(H:Ug w v p fi F xs r){l:ML}(g:l∈r.cv){y:Fs}(i:Rd w 1 (Z y.a y.n y.c) l.aC (Ad As l.aC)):∃(h:Nat) (m:MB),l.head=(h:Int)/\h< ↑r.aC/\Wp w v y p fi F xs h l m:=by obtain⟨⟨h,b,d⟩,e,f,j⟩:=H.fh.loop l g;exact⟨h,_,b,d,H.bs,H.nx,H.cd,H.tn,H.tr,H.nu,b,by rw[H.eb];exact an d,i,f,by rw[H.fl];exact e⟩
end
structure og(w u:Y)(v:BQ):Prop where
 body:Ay u w v.cells 111
 eY:Ay u ((w:Nat)+1) #[iZ 0,sN,sN] 65
 cq:Ah w w u
theorem og.av{w u b:Y}{v:BQ}(h:og w u v)(a:Ah u u b):og w b v:=⟨h.body.av a,h.eY.av a,Ar h.cq lR a⟩
theorem Hr(v:BQ)(p:MP)(fi:Int)(F:List (MB×J))(xs:List MI)(r:Ee)(w:Y)(t:Ug w v p fi F xs r):
 Ai Aq 127 #[An v.cells] w λe w'=>(∃(h:Int) (x y:Fs) (b:Bool),e=Am (Ap #[An #[h,Z x.a x.n x.c,Z y.a y.n y.c],b])/\(b=true->∃(k:Nat) (l:ML) (n:Int),r.cv[k]?=K l/\l.head=h/\n≠0/\A6 p fi xs r.aC l n/\∀S∈r.cv.take k,A6 p fi xs r.aC S 0)/\(b=false->∀l∈r.cv,A6 p fi xs r.aC l 0))/\Ah w w w':=by
 have H:=Aw t;have aI:r.cv.length<=1024:=t.fh.nl;have HN:=Aw t.ln;obtain⟨qa,aj⟩:∃qa,v.q.a=qa:=⟨_,rfl⟩;have V:=Aw aj;clear aj t;have L:=BT w v.cells #[iZ 0,sN,sN] 111 65;go_enter func127,ntmps127;go_upto_region 1 with fail
 refine Av (λu=>Ae (og w u v)) ⟨L.1,L.2.1,L.2.2⟩ ?_;rintro U d;clear L;have D:=d.body.cell 14;simp only[BQ.cells]at D;simp only[HN.o,V.o]at D;go_wp2_with fail;clear D;go_loopw [10] (λi wr=>∃k:Nat,k<= ↑r.cv/\i=iZ k/\Ae (og w wr v/\∀l∈r.cv.take k,A6 p fi xs r.aC l 0)) (λi _=> ↑r.cv-(intOf i).toNat)
 case atStart=>exact⟨0,oM,rfl,d, λl C=>by simp at C⟩
 case round=>
 clear d;obtain⟨k,hk,rfl,d⟩:=hrel;by_cases au:k< ↑r.cv
 case neg=>
  have E:=d.1.eY.cell 0;have G:=d.1.eY.cell 1;have I:=d.1.eY.cell 2;have f0:=d.1.eY.frozen 0;have f1:=d.1.eY.frozen 1;have f2:=d.1.eY.frozen 2;simp only[i5,f8,i6]at E G I;have HA:Ae (∀l∈r.cv,A6 p fi xs r.aC l 0):=by
   have:=d.2;rw[kP (show ↑r.cv<=k from oM)]at this
   exact this
  go_wp2;exact kA (v:=Ap #[An #[iZ 0,sN,sN],false]) (by simp[results,results127,go_sem,E,G,I]) rfl ⟨⟨0,⟨M,0,0⟩,⟨M,0,0⟩,false,rfl,(λh=>by cases h), λ_=>HA.o⟩,(((d.1.cq.setCell oS _).setCell oS _).setCell oS _)⟩
 have aH:(k:Int)<(r.cv:Int):=oM;obtain⟨l,C⟩:∃l,r.cv[k]?=K l:=⟨_,an au⟩;have t:=H.av d.1.cq;obtain⟨gl,ol,s,A,g,j,W,i0,i1,i2,R⟩:=Lv t.ls C;rw[V]at W;subst W;have N:=Aw (fd C R);obtain⟨h,m,P,_,aa⟩:=t.loop (hC C) (y:=⟨g,l.aC,j⟩) R.2;have aq:=Aw aa;rw[P]at i0;have HH:=Aw P;clear aa C R t P;generalize l.back.length=z at i1 N;go_upto_region 4 with fail
 have E4:Ae (og w (Ac wr (Ak #[h,Z s z A,Z g l.aC j] 65)) v/\Ay (Ac wr (Ak #[h,Z s z A,Z g l.aC j] 65)) wr #[h,Z s z A,Z g l.aC j] 65/\Ah wr wr (Ac wr (Ak #[h,Z s z A,Z g l.aC j] 65))):=⟨d.1.av (Al _ _),Ay.new _ _ _,Al _ _⟩
 refine Av (λu=>Ae (og w u v/\Ay u wr #[h,Z s z A,Z g l.aC j] 65/\Ah wr wr u)) E4 ?_
 rintro U4 B;clear E4 i0 i1 i2;generalize hX:wr.heap.size=X at B⊢;obtain⟨p0,p1,p2,p3,p4,p5,p6,p7,p8,p9,ax,aA,aE,aF,D⟩:=CY B.1.body;obtain⟨l0,l1,l2⟩:=Dv B.2.1;go_wp2_with fail;refine(Ny v h ⟨s,z,A⟩ ⟨g,l.aC,j⟩ p fi F xs l m U4 (aq.av (hX▸B.2.2))).mono ?_;rintro e u5 ⟨⟨nn,rfl,ai⟩,O⟩;have f:=Aw (fd (B.1.av O) (B.2.1.av O));have T:Ae (A6 p fi xs r.aC l nn):=by rw[<-H.eb];exact ai
 clear ai O B p0 p1 p2 p3 p4 p5 p6 p7 p8 p9 ax aA aE aF D l0 l1 l2;by_cases Q:nn=0
 . subst Q;go_wp2;go_roundw;case rel=>
    refine⟨k+1,oM,by go_num,f.1, λS ae=> ?_⟩;rw[List.take_add_one,N.1]at ae;rcases jL.1 ae with q|q
    . exact d.2 S q
    simp at q;rw[q];exact T
   case measure=>exact oI
 have aG:(nn==0)=false:=by simp[Q]
 obtain⟨l0,l1,l2⟩:=Dv f.2;have E:=f.1.eY.cell 0;have G:=f.1.eY.cell 1;have I:=f.1.eY.cell 2;have f0:=f.1.eY.frozen 0;have f1:=f.1.eY.frozen 1;have f2:=f.1.eY.frozen 2;simp only[i5,f8,i6]at E G I;go_wp2;exact kA (v:=Ap #[An #[h,Z s z A,Z g l.aC j],true]) (by simp[results,results127,go_sem,E,G,I]) rfl ⟨⟨(h:Int),⟨s,z,A⟩,⟨g,l.aC,j⟩,true,rfl, λ_=>⟨k,l,nn,N.1,HH,Q,T,d.2⟩, λh=>(by cases h)⟩,(((f.1.cq.setCell oS _).setCell oS _).setCell oS _)⟩
theorem L7(v:BQ)(p:MP)(fi:Int)(F:List (MB×J))(xs:List MI)(r:Ee)(w:Y)(m:Ug w v p fi F xs r):
 Ai Aq 127 #[An v.cells] w λe d=>(∃(h:Int) (x y:Fs) (b:Bool),e=Am (Ap #[An #[h,Z x.a x.n x.c,Z y.a y.n y.c],b])/\(b=true->∃l∈r.cv,∃k,k≠0/\A6 p fi xs r.aC l k)/\(b=false->∀l∈r.cv,A6 p fi xs r.aC l 0))/\Ah w w d:=
 (Hr v p fi F xs r w m).mono λe d ⟨⟨h,x,y,b,f,g,i⟩,j⟩=>⟨⟨h,x,y,b,f, λe=>(by obtain⟨k,l,n,q,_,s,t,_⟩:=g e;exact⟨l,hC q,n,s,t⟩),i⟩,j⟩
theorem SK{w a:Y}{o:Nat}{v:J}(d:w.grownBy a (K b))(h:w ⟨g,o,M⟩=K v)(f:g≠b):a ⟨g,o,M⟩=K v:=by have c:=i7 h;unfold World.cell? at h⊢;rw[d.block g c (λe=>f (by cases e;rfl))];exact h
theorem Ay.apart{w c:Y}{a:Array J}{t:Aj}(h:Ay w b a t)(f:w.grownBy c (K g))(i:b≠g):Ay c b a t:=by have d:=h.lt;unfold Ay at h⊢;rw[f.block b d (λe=>i (by cases e;rfl))];exact h
theorem Sj(b:Nat)(a:Option Addr)(c:Nat)(ks:List Int)(w:Y)(Q:ks.length<=1048576)(hw:∀z∈ks,Fb z)(n:Rd w 1 (Z a ks c) ks (Ad As ks))(v:∀g o,a=K ⟨g,o,M⟩->0<ks.length->g≠b)(h:AP w b 0 (.map [])):
 Ai Aq 59 #[.map (K b),Z a ks c] w λe E=>e=Am (.tuple #[])/\(∃l D,AP E b l D/\∀z:Int,Go.Maps.has D (.int Af z)=decide (z∈ks))/\w.grownBy E (K b):=by
 have H:=Aw (fd hw (fd n (fd v h)));clear hw n v h;go_enter func59,ntmps59;go_wp2;go_loopw [8] (λi wr=>∃k:Nat,k<= ↑ks/\i=.int Af k/\Ae (∃D,AP wr b k D/\(∀z:Int,Go.Maps.has D (.int Af z)=decide (z∈ks.take k))/\w.grownBy wr (K b))) (λi _=> ↑ks-(intOf i).toNat)
 case atStart=>exact⟨0,oM,rfl,.map [],H.2.2.2, λz=>by simp;rfl,⟨rfl,rfl,rfl,Nat.le_refl _, λ_ _ _=>rfl⟩⟩
 obtain⟨k,n,rfl,s⟩:=hrel;obtain⟨D,f,B,x⟩:=s.o;have d:=Aw (fd B x);clear s B x;by_cases N:k< ↑ks
 . have O:(k:Int)<(ks:Int):=oM;obtain⟨z,j⟩:∃z,ks[k]?=K z:=⟨_,an N⟩;obtain⟨g,o,u,t⟩:∃g o,a=K ⟨g,o,M⟩/\w ⟨g,o+k,M⟩=K (iZ z):=by
    rcases H.2.1.2 with⟨q,_⟩|⟨g,o,c',m,L⟩
    . omega
    simp only[i8,kW]at m;exact⟨g,o,m.1,L k _ (Fc j)⟩
   have m:=SK d.2 t (H.2.2.1 g o u oM);subst u;have P:=H.1 z (hC j);have p:wr.ownsMap Aq 2 (unitElem (H:=Unit)) b k D:=f;have I:=Aw j;clear j f t;go_wp2_with (at_mapUpdate;refine wpList_mapUpdate_own _ rfl _ _ _ 164 rfl 2 89 Fe underlying164 (unitElem (H:=Unit)) b k D rfl p oX _ _ _ rfl rfl (mE underlying2 P) _ [] unitElem_mk ?_;intro F C A);have G:Ae (∃D,AP F b (k+1) D/\(∀z:Int,Go.Maps.has D (.int Af z)=decide (z∈ks.take (k+1)))/\w.grownBy F (K b)):=by refine⟨_,C, λy=> ?_,d.2.trans A⟩;rw[Ew D (lU p),d.1 y,List.take_add_one,I.o,mi];simp
   clear C A p;go_wp2;go_roundw;(case rel=>exact⟨k+1,oM,by go_num,G⟩);exact oI
 have O:¬(k:Int)<(ks:Int):=oM;have r:Ae ((∃l D,AP wr b l D/\∀z:Int,Go.Maps.has D (.int Af z)=decide (z∈ks))/\w.grownBy wr (K b)):=by refine⟨⟨k,D,f, λz=> ?_⟩,d.2⟩;rw[d.1 z,kP (show ↑ks<=k from oM)]
 clear f;go_wp2;go_end0;exact⟨rfl,r.1,r.2⟩
def Jl(v:BQ)(c s:J):Array J:=#[Z v.r.a v.r.n v.r.c,Z v.k.a v.k.n v.k.c,Z v.f.a v.f.n v.f.c,Z v.t.a v.t.n v.t.c,Z v.p.a v.p.n v.p.c,v.rs,Z v.l.a v.l.n v.l.c,Z v.c.a v.c.n v.c.c,v.nu,v.co,v.at_,Z v.b.a v.b.n v.b.c,Z v.o.a v.o.n v.o.c,Z v.i.a v.i.n v.i.c,Z v.q.a v.q.n v.q.c,c,s]
structure CH(u:Y)(B CB:Nat)(v:BQ)(n gC cC gS cS:Nat)(I:List Nat)(C:List Int):Prop where
 eP:Ay u CB (Jl v (sG gC n cC) (sG gS n cS)) 256
 co:Ab u B 2 1 (sG gC n cC) n (Ad As C)
 st:Ab u B 2 1 (sG gS n cS) n (nv I)
 ne:gC≠gS
 lc: ↑C=n
 li: ↑I=n
 cc:∀y∈C,Ks y
 ii:∀b∈I,b<n
 bl:B<=CB
section
variable {u u':Y} {B CB:Nat} {v:BQ} {n gC cC gS cS:Nat} {I:List Nat} {C:List Int}
theorem CH.av(h:CH u B CB v n gC cC gS cS I C)(a:Ah u u u'):CH u' B CB v n gC cC gS cS I C:={h with eP:=h.eP.av a,co:=AC h.co a lR,st:=AC h.st a lR}
theorem CH.jA(h:CH u B CB v n gC cC gS cS I C)(a:c<n):u ⟨gC,c,M⟩=K ↑(cf C c):=by have:=mC h.co c oM;rw[Fc (WM (by rw[h.lc];exact a))]at this;exact this
theorem qu(h:b< ↑I):I[b]?=K (jf I b):=by rw[an h];exact congrArg K (nT (an h)).symm
theorem CH.ig(h:CH u B CB v n gC cC gS cS I C)(c:b<n):u ⟨gS,b,M⟩=K ↑(jf I b:Int)/\jf I b<n:=by have a:=qu (I:=I) (b:=b) (by rw[h.li];exact c);have:=mC h.st b oM;rw[Rm a]at this;exact⟨this,h.ii _ (hC a)⟩
theorem CH.cells(h:CH u B CB v n gC cC gS cS I C):u ⟨CB,11,M⟩=K (Z v.b.a v.b.n v.b.c)/\u ⟨CB,12,M⟩=K (Z v.o.a v.o.n v.o.c)/\u ⟨CB,15,M⟩=K (sG gC n cC)/\u ⟨CB,16,M⟩=K (sG gS n cS):=⟨by rw[h.eP.cell];rfl,by rw[h.eP.cell];rfl,by rw[h.eP.cell];rfl,by rw[h.eP.cell];rfl⟩
end
structure pT(w:Y)(v:BQ)(n:Nat)(E:Nat->List Nat)(R:List Nat)(pl:Nat->Nat):Prop where
 gr:∃gb ob,v.b.a=K ⟨gb,ob,M⟩/\v.b.n=n/\Se w gb ob n E
 eb:∀b,b<n->∀x∈E b,x<n
 sz:∀b,(E b).length<=1024
 od:∃go oo,v.o.a=K ⟨go,oo,M⟩/\v.o.n= ↑R/\∀k y:Nat,R[k]?=K y->w ⟨go,oo+k,M⟩=K ↑(y:Int)
 rb:∀y∈R,y<n
 rl:R.length<=1024
 p1:∀b,b<n->R[pl b]?=K b
 p2:∀(k b:Nat),R[k]?=K b->pl b=k
theorem pT.av{w u:Y}{v:BQ}{n:Nat}{R:List Nat}{b:Nat->Nat}(h:pT w v n E R b)(a:Ah w w u):pT u v n E R b:=by obtain⟨gb,m,d,e,f⟩:=h.gr;obtain⟨c,p,i,j,l⟩:=h.od;exact{h with gr:=⟨gb,m,d,e,f.av a⟩,od:=⟨c,p,i,j, λk y g=>Az a (l k y g)⟩}
structure Si(w u:Y)(SB h:Nat)(x:Fs)(ka:Option Addr)(kc:Nat)(ks:List Int)(n gL:Nat)(L:List Int):Prop where
 set:∃cnt D,AP u SB cnt D/\∀z:Int,Go.Maps.has D (.int Af z)=decide (z∈ks)
 lb:Ay u w #[h,Z x.a x.n x.c,Z ka ks kc] 65
 row:Ab u w 2 1 (Z gL n n) n (Ad As L)
 cq:Ah w w u
 lt: ↑w<gL
 ns:SB≠gL
section
variable {w u u':Y} {SB h:Nat} {x:Fs} {ka:Option Addr} {kc:Nat} {ks:List Int} {n gL:Nat} {L:List Int}
theorem Si.av(H:Si w u SB h x ka kc ks n gL L)(a:Ah u.heap.size u u'):Si w u' SB h x ka kc ks n gL L:=by obtain⟨b,D,s1,s2⟩:=H.set;exact⟨⟨b,D,s1.av a,s2⟩,H.lb.av a,AC H.row a lR,Ar H.cq lR a,H.lt,H.ns⟩
theorem Si.put(H:Si w u SB h x ka kc ks n gL L)(k:Nat)(y:Int):Si w (Aa u ⟨gL,k,M⟩ (.int Af y)) SB h x ka kc ks n gL (L.set k y):=by obtain⟨c,D,s1,s2⟩:=H.set;obtain⟨b,d⟩:=mW H.row k y;rw[Pm]at b;have:=H.lt;exact⟨⟨c,D,World.ownsMap.kept s1 d (by simp only[ne_eq,jJ];exact H.ns),s2⟩,H.lb.other (a:=⟨gL,k,M⟩) oS _,b,H.cq.setCell oS _,H.lt,H.ns⟩
theorem Si.at_(H:Si w u SB h x ka kc ks n gL L)(f: ↑L=n)(d:c<n):u ⟨gL,c,M⟩=K ↑(cf L c)/\u.frozen? ⟨gL,c,M⟩=false:=by have a:=mC H.row c oM;rw[Fc (WM (by rw[f];exact d))]at a;obtain⟨_,b,e⟩:=AY H.row;exact⟨a,frozen_of_row u gL c b _ e⟩
end
def qV(w:Y)(n:Nat)(E:Nat->List Nat)(ks:List Int)(I:List Nat)(C:List Int)(h:Nat)(d:Nat->Nat)(e:Ending)(a:Y):Prop:=∃(gL:Nat) (L:List Int) (small:Bool),e=Am (.tuple #[sG gL n n,small])/\(small=true->(∀c,c<n->a ⟨gL,c,M⟩=K ↑(cf L c))/\∀y∈L,Ks y)/\oz E n (λb=>decide ((b:Int)∈ks)) I C h d L small/\Ah w w a
structure ny(w u:Y)(v:BQ)(a e:Nat)(nx:J):Prop where
 body:Ay u w v.cells 111
 eP:Ay u ((w:Nat)+1) #[a,e,nx] 97
 cq:Ah w w u
theorem ny.av{w u c:Y}{v:BQ}{a e:Nat}{nx:J}(h:ny w u v a e nx)(b:Ah u u c):ny w c v a e nx:=⟨h.body.av b,h.eP.av b,Ar h.cq lR b⟩
def BcR(w:Y)(xs:List MI)(costs:List Int)(m:MB)(e:Ending)(a:Y):Prop:=(∃s b,e=Am (Ap #[iZ s,Ao b])/\(b=true->¬FJ xs costs m/\s=Cf xs costs m)/\(b=false->FJ xs costs m))/\Ah w w a
theorem Nd(v:BQ)(nx:J)(xs:List MI)(costs:List Int)(m:MB)(ca:Option Addr)(cc:Nat)(w:Y)(hn:xs.length<=1024)(hc:Rd w 4 (Z v.c.a v.c.n v.c.c) xs (Ad MI.cells xs))(aF: ↑xs<=v.c.c)(bB:costs.length<=1048576)(hk:Rd w 1 (Z ca costs cc) costs (Ad As costs))(aM:∀x∈xs,x.op=28->0<=x.a)(hm:∃a e:Nat,m.cz=(a:Int)/\m.last=(e:Int)/\a<=e/\e< ↑xs):
 Ai Aq 162 #[An v.cells,An #[m.cz,m.last,nx],Z ca costs cc] w (BcR w xs costs m):=by
 obtain⟨a,e,m1,m2,aE,aZ⟩:=hm;obtain⟨d,aI⟩:∃d,e=a+d:=⟨e-a,oM⟩;have l:=Aw aI;clear aI;have HM:=Aw (fd m1 m2);rw[m1,m2];clear m1 m2 aE;have au:Ae (∀op,0<=PB op):= λop=>X4 op (Hw op)
 have HK:=Aw (fd hk aM);clear hk aM;rcases hc.2 with⟨q0,_⟩|⟨gc,P,aX,q1,T⟩
 . omega
 simp only[i8]at q1;have HC:Ae (∀(u:Y),Ah w w u->∀(k:Nat) (x:MI),xs[k]?=K x->u ⟨gc,P+k*4,M⟩=K (iZ x.op)/\u ⟨gc,P+k*4+1,M⟩=K (iZ x.a)/\u ⟨gc,P+k*4+2,M⟩=K (iZ x.b)/\u ⟨gc,P+k*4+3,M⟩=K (iZ x.c)):= λu O k x r=>by have i0:=Rd.elem MI.bW T k x r 0 _ rfl;have H:=Rd.elem MI.bW T k x r 1 _ rfl;have I:=Rd.elem MI.bW T k x r 2 _ rfl;have L:=Rd.elem MI.bW T k x r 3 _ rfl;rw[<-O.cell (i7 i0),jV]at i0;rw[<-O.cell (i7 H)]at H;rw[<-O.cell (i7 I)]at I;rw[<-O.cell (i7 L)]at L;exact⟨i0,H,I,L⟩
 have HQ:=Aw (fd q1.1 q1.2.1);clear T hc q1 aX;generalize aG:v.c.c=cap at aF;have aS:=Aw aG;clear aG;have E0:Ae (ny w (Ac (Ac w (Ak v.cells 111)) (Ak #[a,e,nx] 97)) v a e nx):=⟨(Ay.new _ _ _).av (Al _ _),by have:=Ay.new (Ac w (Ak v.cells 111)) #[a,e,nx] 97;rw[l8]at this;exact this,Ar (Al _ _) lR (Al _ _)⟩;generalize aQ:xs.length=n at hn aZ aF HQ;have aW:=Aw aQ;clear aQ;go_enter func162,ntmps162;go_upto_region 1 with fail
 refine Av (λu=>Ae (ny w u v a e nx)) E0 ?_;rintro U g;clear E0;have p7:=g.body.cell 7;simp only[BQ.cells]at p7;simp only[HQ.1,HQ.2,aS.o]at p7;obtain⟨b0,b1,b2⟩:=Dv g.eP;have aE:a<=e:=by have:=l.o;omega
 have bi:IntKind.i64.wrap ((e:Int)+1)=((e+1:Nat):Int):=by rw[nC _ ⟨oM,oM⟩];omega
 go_upto_region 3 with fail
 have aK:e+1-a=d+1:=by have:=l.o;omega
 rw[aK];generalize aJ:P+a*4=V;have aH:d+1<=cap-a:=by have:=l.o;omega
 generalize cap-a=cp at aH⊢;have HO:=Aw aJ;have aR:Ae (∀(u:Y),Ah w w u->∀(j:Nat) (x:MI),xs[a+j]?=K x->u ⟨gc,V+j*4,M⟩=K (iZ x.op)/\u ⟨gc,V+j*4+1,M⟩=K (iZ x.a)/\u ⟨gc,V+j*4+2,M⟩=K (iZ x.b)/\u ⟨gc,V+j*4+3,M⟩=K (iZ x.c)):= λu O j x r=>by
  have e:V+j*4=P+(a+j)*4:=by rw[<-HO];omega
  rw[e];exact HC.o u O (a+j) x r
 clear aJ HO HC aK p7 b0 b1 b2 bi;generalize aA:d+1=S at aH⊢;have C:=Aw aA;clear aA;have bq:S<=1048576:=by have:=C.o;have:=l.o;omega
 go_loopw [6,7,8,10,22] (λ_ _ s _ i wr=>∃(j:Nat) (c0:Int),j<=S/\s=iZ c0/\i=iZ j/\Ae (ny w wr v a e nx/\Ks c0/\(∀t x,t<j->xs[a+t]?=K x->M7 costs x)/\c0=CW xs costs a j)) (λ_ _ _ _ i _=>S-(intOf i).toNat)
 case atStart=>exact⟨0,0,oM,rfl,rfl,g,⟨oM,oM⟩, λt x ht=>absurd ht (Nat.not_lt_zero _),rfl⟩
 case round=>
 clear g;obtain⟨j,c0,hj,rfl,rfl,g⟩:=hrel;by_cases bH:j<S;case neg=>
  obtain rfl:j=d+1:=by have:=C.o;omega
  have Q:Ae (Cf xs costs m=c0):=by show Cf xs costs m=c0;unfold Cf;rw[HM.1,HM.2,i9,i9,g.2.2.2,show e+1-a=d+1 by have:=l.o;omega]
  have aT:Ae (¬FJ xs costs m):= λhB=>by
   rcases hB with⟨t,x,H,I,L,i4⟩|hB
   . rw[HM.1]at H;rw[HM.2]at I;exact i4 (g.2.2.1 (t-a) x (by have:=l.o;omega) (by rw[show a+(t-a)=t from oM];exact L))
   rw[Q]at hB;have:=g.2.1.2;omega
  go_wp2_with fail;exact kA (v:=Ap #[c0,true]) (by simp[results,results162,go_sem]) rfl ⟨⟨c0,true,rfl, λ_=>⟨aT,Q.symm⟩, λh=>by cases h⟩,g.1.cq⟩
 have bI:(j:Int)<(S:Int):=oM;obtain⟨x,r⟩:∃x,xs[a+j]?=K x:=⟨_,an (by rw[aW];have:=C.o;have:=l.o;omega)⟩;obtain⟨i0,H,I,L⟩:=aR.o wr g.1.cq j x r;have D:=Aw r;clear r;go_upto_region 5 with fail
 have E5:Ae (ny w (Ac wr (Ak #[iZ x.op,iZ x.a,iZ x.b,iZ x.c] 25)) v a e nx/\Ay (Ac wr (Ak #[iZ x.op,iZ x.a,iZ x.b,iZ x.c] 25)) wr #[iZ x.op,iZ x.a,iZ x.b,iZ x.c] 25):=⟨g.1.av (Al _ _),Ay.new _ _ _⟩
 generalize wr.heap.size=X at E5⊢;refine Av (λu=>Ae (ny w u v a e nx/\Ay u X #[iZ x.op,iZ x.a,iZ x.b,iZ x.c] 25)) E5 ?_
 rintro U5 W;clear E5 i0 H I L;obtain⟨d0,d1,d2,d3⟩:=CP W.2;go_wp2_with fail;refine(Qf x.op U5).mono ?_;rintro e u3 ⟨rfl,bb⟩;obtain⟨si,f,fo,aj,aY⟩:=Hw x.op;rw[aj];have bG:=Q5 si f fo;have ai:=Aw (X5 aj);have A:=Aw (fd (W.1.av bb) (W.2.av bb));clear bb W d0 d1 d2 d3 aj;obtain⟨d0,d1,d2,d3⟩:=CP A.2;obtain⟨bu,bx⟩:=aY;have br:=g.2.1.1;have bt:=g.2.1.2;by_cases F:x.op=28;case neg=>
  have bJ:(x.op==28)=false:=by simpa using F
  go_wp2_with fail;refine(GP (c0+f) u3).mono ?_;rintro e u4 ⟨rfl,rfl⟩;by_cases E:c0+f<=4294967295
  . rw [decide_eq_true (show 0<=c0+f/\c0+f<=4294967295 from⟨oM,E⟩)]
    go_wp2_with fail;go_roundw;case rel=>
     refine⟨j+1,c0+f,oM,rfl,by go_num,A.1,⟨oM,E⟩, λt y ht G=> ?_,?_⟩
     . by_cases e:t=j
       . subst e;rw[D]at G;(cases G);exact λq=>absurd q F
       exact g.2.2.1 t y oM G
     (have h9:CW xs costs a (j+1)=CW xs costs a j+C5 costs x:=by simp only[CW,D.o]);rw[h9,<-g.2.2.2];unfold C5;rw[jH F,ai];omega
    case measure=>exact oI
  rw[kj (show¬(0<=c0+f/\c0+f<=4294967295)from λh=>E h.2)]
  have B:=Aw (FJ.gG au HM.1 HM.2 (k:=j) (by have:=C.o;have:=l.o;omega) (d:=c0+f) (.inr ⟨x,D,by have:=C.o;have:=l.o;omega,by rw[<-g.2.2.2,ai];exact Int.le_refl _⟩) oM oM);go_wp2_with fail;exact kA (v:=Ap #[iZ 0,false]) (by simp[results,results162,go_sem]) rfl ⟨⟨0,false,rfl,(λh=>by cases h), λ_=>B.o⟩,A.1.cq⟩
 have aO:=HK.2 x (hC D) F;obtain⟨p,aq⟩:=jW aO;clear aO;have N:=Aw (fd F aq);have Q:Ae (¬M7 costs x->FJ xs costs m):= λhq=>.inl ⟨a+j,x,by rw[HM.1];omega,by rw[HM.2];have:=C.o;have:=l.o;omega,D,hq⟩
 rw[aq]at d1;rw[F]at d0;clear F aq;go_wp2_with fail;refine(A8 (p:Int) (costs:Int) u3).mono ?_;rintro e u4 ⟨rfl,rfl⟩;by_cases aa:p< ↑costs
 case neg=>
  rw[kj (show¬(0<=(p:Int)/\(p:Int)<(costs:Int))from λh=>aa oM)]
  have B:=Aw (Q.o λh=>by have:=(h N.1).1;rw[N.2,i9]at this;exact aa this);go_wp2_with fail;exact kA (v:=Ap #[iZ 0,false]) (by simp[results,results162,go_sem]) rfl ⟨⟨0,false,rfl,(λh=>by cases h), λ_=>B.o⟩,A.1.cq⟩
 rw[decide_eq_true (show 0<=(p:Int)/\(p:Int)<(costs:Int)from⟨oM,oM⟩)]
 obtain⟨z,hz⟩:∃z,costs[p]?=K z:=⟨_,an aa⟩;obtain⟨ga,oa,ea,kz⟩:∃ga oa,ca=K ⟨ga,oa,M⟩/\u4 ⟨ga,oa+p,M⟩=K ↑z:=by
  have:=Rd.av HK.1 A.1.cq lR;rcases this.2 with⟨e0,_⟩|⟨g1,o1,bj,e1,hc⟩
  . omega
  simp only[i8,kW]at e1;exact⟨g1,o1,e1.1,hc p _ (Fc hz)⟩
 subst ea;have R:Ae (cf costs x.a.toNat=z/\x.a.toNat< ↑costs):=⟨by rw[N.2,i9];exact KG hz,by rw[N.2,i9];exact aa⟩
 have bC:(p:Int)<(costs:Int):=oM;clear hz;go_wp2_with fail;refine(GP z u4).mono ?_;rintro e u5 ⟨rfl,rfl⟩;by_cases ae:0<=z/\z<=4294967295
 case neg=>rw[kj ae];have B:=Aw (Q.o λh=>ae (by have:=(h N.1).2;rw[R.1]at this;exact this));go_wp2_with fail;exact kA (v:=Ap #[iZ 0,false]) (by simp[results,results162,go_sem]) rfl ⟨⟨0,false,rfl,(λh=>by cases h), λ_=>B.o⟩,A.1.cq⟩
 rw[decide_eq_true ae];obtain⟨bf,bg⟩:=ae;have ax:Ae (CW xs costs a (j+1)=c0+f+z):=by
  have h9:CW xs costs a (j+1)=CW xs costs a j+C5 costs x:=by simp only[CW,D.o]
  show CW xs costs a (j+1)=c0+f+z;rw[h9,<-g.2.2.2];unfold C5;rw[jP N.1,ai.o,R.1];omega
 go_wp2_with fail;refine(GP (c0+f+z) u5).mono ?_;rintro e u6 ⟨rfl,rfl⟩;by_cases E:c0+f+z<=4294967295
 . rw [decide_eq_true (show 0<=c0+f+z/\c0+f+z<=4294967295 from⟨oM,E⟩)]
   go_wp2_with fail;go_roundw;case rel=>
    refine⟨j+1,c0+f+z,oM,rfl,by go_num,A.1,⟨oM,E⟩, λt y ht G=> ?_,ax.symm⟩;by_cases e:t=j
    . subst e;rw[D]at G;(cases G);exact λ_=>⟨R.2,by rw[R.1];exact bf,by rw[R.1];exact bg⟩
    exact g.2.2.1 t y oM G
   case measure=>exact oI
 rw[kj (show¬(0<=c0+f+z/\c0+f+z<=4294967295)from λh=>E h.2)]
 have B:=Aw (FJ.gG au HM.1 HM.2 (k:=j+1) (by have:=C.o;have:=l.o;omega) (d:=c0+f+z) (.inl (by rw[ax];exact Int.le_refl _)) oM oM);go_wp2_with fail;exact kA (v:=Ap #[iZ 0,false]) (by simp[results,results162,go_sem]) rfl ⟨⟨0,false,rfl,(λh=>by cases h), λ_=>B.o⟩,A.1.cq⟩
def WA(xs:List MI)(a:List MB)(b:Nat):Prop:=∃m x,a[b]?=K m/\xs[m.last.toNat]?=K x/\x.op=29
theorem NE(v:BQ)(F:List (MB×J))(xs:List MI)(w:Y)(E:JQ w v F xs)(aF:∀z∈F,∃a n c,z.2=Z a n c)(hc:Rd w 4 (Z v.c.a v.c.n v.c.c) xs (Ad MI.cells xs)):
 Ai Aq 167 #[An v.cells] w λe w'=>∃(a:Option Addr) (c:Nat) (d:List Int),e=Am (Z a d c)/\Rd w' 1 (Z a d c) d (Ad As d)/\(∀z,z∈d↔∃b:Nat,z=(b:Int)/\b< ↑F/\WA xs (F.map Prod.fst) b)/\d.length<=1024/\Ah w w w':=by
 obtain⟨k0,hk,aM,aO,aQ⟩:=km Cy;have H:=Aw (fd E (fd aF hc));have aS:F.length<=1024:=E.len;have bf:xs.length<=1024:=E.top;obtain⟨D,bc,T⟩:=E.rd.aP;simp only[i8]at T;have aH:=Aw T.2.1;clear E aF hc T D bc;obtain⟨D,ax⟩:∃D,v.b.a=D:=⟨_,rfl⟩;have ae:=Aw ax;clear ax;have E0:Ae (Ay (Ac w (Ak v.cells 111)) w v.cells 111/\Ah w w (Ac w (Ak v.cells 111))):=⟨Ay.new _ _ _,Al _ _⟩
 go_enter func167,ntmps167;go_upto_region 1 with fail
 refine Av (λu=>Ae (Ay u w v.cells 111/\Ah w w u)) E0 ?_
 rintro U C;clear E0;have aa:=C.1.cell 11;simp only[BQ.cells]at aa;simp only[aH.o,ae.o]at aa;go_wp2_with fail;clear aa;go_loopw [3,10] (λs i wr=>∃(k:Nat) (d:List Int),k<= ↑F/\i=iZ k/\Ae (Ab wr U 2 1 s d (Ad As d)/\(∀z,z∈d↔∃b:Nat,z=(b:Int)/\b<k/\WA xs (F.map Prod.fst) b)/\ ↑d<=k/\Ah U U wr)) (λ_ i _=> ↑F-(intOf i).toNat)
 case atStart=>exact⟨0,[],oM,rfl,kH _ _ _ _, λz=>⟨λe=>(by cases e), λ⟨b,_,h,_⟩=>absurd h (Nat.not_lt_zero _)⟩,sP,jZ _ _⟩
 case round=>
 obtain⟨k,d,aR,rfl,f⟩:=hrel;by_cases aI:k< ↑F
 case neg=>obtain⟨O,P,V⟩:=AF f.1;subst V;go_wp2_with fail;go_ret;refine⟨O,P,d,rfl,Rd.eS f.1, λz=> ?_,by have:=f.2.2.1;omega,Ar C.2 lR f.2.2.2⟩;rw[f.2.1 z];obtain rfl:k=F.length:=oM;exact Iff.rfl
 have aT:(k:Int)<(F:Int):=oM;obtain⟨m,g,o,y,q,nx,W,eg,en,i0,i1,i2,e1,S,aW,aJ,au⟩:=H.1.at aI;obtain⟨A,nn,B,aq⟩:=H.2.1 _ (hC au);simp only[]at aq;subst aq;obtain⟨x,L⟩:∃x,xs[q]?=K x:=⟨_,an aJ⟩;rcases H.2.2.2 with⟨q0,_⟩|⟨gc,oc,cc,N,aA⟩
 . omega
 simp only[i8]at N;have r:=Rd.elem MI.bW aA q x L 0 _ rfl;rw[jV]at r;have aj:Ae (WA xs (F.map Prod.fst) k↔x.op=29):=⟨λ⟨m',x',l,t,p⟩=>by
  rw[W]at l;cases l
  rw[S,i9,L]at t;cases t
  exact p, λh=>⟨m,x,W,by rw[S,i9];exact L,h⟩⟩
 have G:=Aw (Ar C.2 lR f.2.2.2);have R:=Aw (fd r (fd N.1 N.2.1));rw[<-G.cell (i7 i0)]at i0;rw[<-G.cell (i7 i1)]at i1;rw[<-G.cell (i7 i2)]at i2;obtain rfl:D=K ⟨g,o,M⟩:=by rw[<-ae];exact eg
 obtain⟨O,P,V⟩:=AF f.1;subst V;have aX:(q:Int)<(xs:Int):=oM;clear r N aA W L e1 S au;go_upto_region 5 with fail
 have Q:Ae (Ay (Ac wr (Ak #[y,q,Z A nn B] 97)) w v.cells 111/\Ay (Ac wr (Ak #[y,q,Z A nn B] 97)) wr #[y,q,Z A nn B] 97/\Ab (Ac wr (Ak #[y,q,Z A nn B] 97)) U 2 1 (Z O d P) d (Ad As d)/\Ah U U (Ac wr (Ak #[y,q,Z A nn B] 97))):=⟨(C.1.av f.2.2.2).av (Al _ _),Ay.new _ _ _,f.1.alloc _,f.2.2.2.alloc f.2.2.2.size _⟩
 generalize wr.heap.size=X at Q⊢;refine Av (λu=>Ae (Ay u w v.cells 111/\Ay u X #[y,q,Z A nn B] 97/\Ab u U 2 1 (Z O d P) d (Ad As d)/\Ah U U u)) Q ?_
 rintro U5 j;clear Q i0 i1 i2 G;have b1:=j.2.1.cell 1;simp only[i5,f8,i6]at b1;have p7:=j.1.cell 7;simp only[BQ.cells]at p7;simp only[R.2.1,R.2.2]at p7;have r:=R.1;rw[<-(Ar C.2 lR j.2.2.2).cell (i7 r)]at r;by_cases I:x.op=29
 . rw [I]at r;have aZ:=f.2.2.1;go_wp2_with (at_builtin;refine wpList_append_own _ rfl _ _ 27 rfl U 2 k0 (iZ 0) 1 8 underlying27 hk aM aO aQ rfl dC _ d (Ad As d) rfl (j.2.2.1.alloc _) U5 1 1 [k] rfl rfl (Go.cell_one_new _ _ _) (λu hu=>by simp at hu;subst hu;rfl) oX oM (by have:=j.2.2.2.size;simp;omega) ?_;intro v' w3 aG aE aK);have ai:Ae (Ab w3 U 2 1 v' (d++[(k:Int)]).length (Ad As (d++[(k:Int)]))/\Ah U U w3):=by have o1:=j.2.2.1;refine⟨?_,(j.2.2.2.alloc j.2.2.2.size _).grown aE (by have:=j.2.2.2.size;simp;omega) (λi hi=>(o1.lt i hi).1)⟩;rw[kJ,jI];exact aG
   clear aG aE aK;go_roundw;case rel=>
    refine⟨k+1,d++[(k:Int)],oM,by go_num,ai.1, λz=> ?_,by rw[jI];simp;omega,ai.2⟩;rw[jL,f.2.1 z];simp only[jK,jO,kM];constructor
    . rintro(⟨b,l,t,p⟩|rfl)
      . exact⟨b,l,oM,p⟩
      exact⟨k,rfl,oM,aj.2 I⟩
    rintro⟨b,l,t,p⟩;by_cases e:b=k
    . exact .inr (by rw[l,e])
    exact .inl ⟨b,l,oM,p⟩
   case measure=>exact oI
 have aY:(x.op==29)=false:=by simpa using I
 go_wp2_with fail;go_roundw;case rel=>
  refine⟨k+1,d,oM,by go_num,j.2.2.1, λz=> ?_,by have:=f.2.2.1;omega,j.2.2.2⟩;rw[f.2.1 z];constructor
  . rintro⟨b,l,t,p⟩;exact⟨b,l,oM,p⟩
  rintro⟨b,l,t,p⟩;refine⟨b,l,?_,p⟩;by_cases e:b=k
  . subst e;exact absurd (aj.1 p) I
  omega
 case measure=>exact oI
theorem Rr(d:Nat)(h:Int)(x:Fs)(a:Option Addr)(c:Nat)(b:List Int)(z:Int)(w:Y)(k:b.length<=1048576)(f:Ay w d #[h,Z x.a x.n x.c,Z a b c] 65)(g:Rd w 1 (Z a b c) b (Ad As b)):
 Ai Aq 206 #[z,.pointer d] w λe l=>AM e (¬z∈b)/\l=w:=by
 obtain⟨m,p,r⟩:=Dv f;have H:=Aw g;clear f g;go_enter func206,ntmps206;go_wp2_with fail;refine(Fh a c b z w k H).mono ?_;rintro e u ⟨⟨q,rfl,i⟩,rfl⟩;have j:=Aw i;clear i;go_wp2;go_ret;exact⟨.of (by rw[<-j.o];cases q<;>simp),rfl⟩
theorem SO(s:Option Addr)(D:Nat)(d:List Int)(l:Nat)(h:Int)(x:Fs)(a:Option Addr)(c:Nat)(f:List Int)(w:Y)(Q:f.length<=1048576)(v:Ay w l #[h,Z x.a x.n x.c,Z a f c] 65)(m:Rd w 1 (Z a f c) f (Ad As f))(U:d.length<=1048576)(B:Rd w 1 (Z s d D) d (Ad As d)):
 Ai Aq 211 #[Z s d D,.func (.func 206) #[] #[.pointer l]] w λe R=>(∃n:Int,e=Am n/\(0<=n↔∃z∈d,¬z∈f))/\R=w:=by
 have H:=Aw (fd v (fd m B));clear v m B;go_enter func211,ntmps211;go_wp2;go_loopw [8] (λi wr=>∃k:Nat,k<= ↑d/\i=iZ k/\Ae (∀z∈d.take k,z∈f)/\wr=w) (λi _=> ↑d-(intOf i).toNat)
 case atStart=>exact⟨0,oM,rfl, λz j=>by simp at j,rfl⟩
 case round=>
 obtain⟨k,m,rfl,r,rfl⟩:=hrel;by_cases P:k< ↑d
 case pos=>
  have T:(k:Int)<(d:Int):=oM;obtain⟨z,j⟩:∃z,d[k]?=K z:=⟨_,an P⟩;obtain⟨g,o,I,S⟩:∃g o,s=K ⟨g,o,M⟩/\wr ⟨g,o+k,M⟩=K (iZ z):=by
   rcases H.2.2.2 with⟨q,_⟩|⟨g,o,c',u,O⟩
   . omega
   simp only[i8,kW]at u;exact⟨g,o,u.1,O k _ (Fc j)⟩
  subst I;have t:=Aw j;clear j;go_wp2_with fail;refine(Rr l h x a c f z wr Q H.1 H.2.1).mono ?_;rintro e V ⟨⟨b,rfl,A⟩,rfl⟩;have p:=Aw A;clear A;cases b
  case true=>have G:Ae (∃z∈d,¬z∈f):=⟨z,hC t,p.1 rfl⟩;go_wp2;go_ret;exact⟨⟨(k:Int),rfl, λ_=>G.o, λ_=>oM⟩,rfl⟩
  case false=>
   have F:Ae (∀z∈d.take (k+1),z∈f):= λy C=>by
    rw[List.take_add_one,t]at C;rcases jL.1 C with q|q
    . exact r.o y q
    simp at q;subst q;exact kV λq=>by have:=p.2 q;cases this
   go_wp2;go_roundw;(case rel=>exact⟨k+1,oM,by go_num,F,by trivial⟩);exact oI
 have E:Ae (¬∃z∈d,¬z∈f):= λ⟨z,L,N⟩=>N (r.o z (by rw[kP (show ↑d<=k from oM)];exact L))
 go_wp2;go_ret;exact⟨⟨-1,rfl, λe=>absurd e dC, λe=>absurd e E.o⟩,rfl⟩
theorem Sx(s:Option Addr)(g:Nat)(b:List Int)(f:Nat)(h:Int)(x:Fs)(a:Option Addr)(c:Nat)(d:List Int)(w:Y)(q:d.length<=1048576)(i:Ay w f #[h,Z x.a x.n x.c,Z a d c] 65)(k:Rd w 1 (Z a d c) d (Ad As d))(p:b.length<=1048576)(j:Rd w 1 (Z s b g) b (Ad As b)):
 Ai Aq 207 #[Z s b g,.func (.func 206) #[] #[.pointer f]] w λe r=>AM e (∃z∈b,¬z∈d)/\r=w:=by
 have H:=Aw (SO s g b f h x a c d w q i k p j);clear i k j;go_enter func207,ntmps207;go_wp2_with fail;refine H.mono ?_;rintro e t ⟨⟨n,rfl,l⟩,rfl⟩;have m:=Aw l;clear l;go_wp2;go_ret;exact⟨.of (by simpa using m.o),rfl⟩
def Sf(a:List MB)(c:List Int)(b:Nat):Prop:=∃m,a[b]?=K m/\∃t∈m.next,¬t∈c
theorem Q8(v:BQ)(F:List (MB×J))(N:Nat)(h:Nat)(x:Fs)(y:Option Addr)(A:Nat)(d:List Int)(w:Y)(D:JQ w v F N)(aq:∀z∈F,YP w z.2 z.1/\z.1.next.length<=1048576)(hn:d.length<=1024)(hk:Rd w 1 (Z y d A) d (Ad As d))(hz:∀z∈d,∃b:Nat,z=(b:Int)/\b< ↑F):
 Ai Aq 195 #[An v.cells,An #[h,Z x.a x.n x.c,Z y d A]] w λe w'=>∃(a:Option Addr) (c:Nat) (j:List Int),e=Am (Z a j c)/\Rd w' 1 (Z a j c) j (Ad As j)/\(∀z,z∈j↔z∈d/\Sf (F.map Prod.fst) d z.toNat)/\j.length<=1024/\Ah w w w':=by
 obtain⟨k0,aH,aJ,aK,aM⟩:=km Cy;have H:=Aw (fd D (fd aq (fd hk hz)));have aR:F.length<=1024:=D.len;obtain⟨t,bc,E⟩:=D.rd.aP;simp only[i8]at E;have aA:=Aw E.2.1;clear D aq hk hz E t bc;obtain⟨t,aa⟩:∃t,v.b.a=t:=⟨_,rfl⟩;have P:=Aw aa;clear aa;have O:=BT w v.cells #[h,Z x.a x.n x.c,Z y d A] 111 65;go_enter func195,ntmps195;go_upto_region 1 with fail
 refine Av (λu=>Ae (Ay u w v.cells 111/\Ay u ((w:Nat)+1) #[h,Z x.a x.n x.c,Z y d A] 65/\Ah w w u)) O ?_
 rintro U r;clear O;obtain⟨l0,l1,l2⟩:=Dv r.2.1;go_wp2_with fail;clear l0 l1 l2;go_loopw [6,13] (λs i wr=>∃(k:Nat) (j:List Int),k<= ↑d/\i=iZ k/\Ae (Ab wr U 2 1 s j (Ad As j)/\(∀z,z∈j↔z∈d.take k/\Sf (F.map Prod.fst) d z.toNat)/\ ↑j<=k/\Ah U U wr)) (λ_ i _=> ↑d-(intOf i).toNat)
 case atStart=>exact⟨0,[],oM,rfl,kH _ _ _ _, λz=>sP,sP,jZ _ _⟩
 case round=>
 obtain⟨k,j,aQ,rfl,f⟩:=hrel;by_cases ai:k< ↑d
 case neg=>
  obtain⟨sa,sc,G⟩:=AF f.1;subst G;have HP:Ae (∀z,z∈j↔z∈d/\Sf (F.map Prod.fst) d z.toNat):= λz=>by rw[f.2.1 z,kP (show ↑d<=k from oM)]
  go_wp2_with fail;go_ret;exact⟨sa,sc,j,rfl,Rd.eS f.1,HP,by have:=f.2.2.1;omega,Ar r.2.2 lR f.2.2.2⟩
 have aS:(k:Int)<(d:Int):=oM;have B:=Aw (Ar r.2.2 lR f.2.2.2);obtain⟨b,W,hb⟩:=H.2.2.2 d[k] (mu ai);have L:d[k]?=K (b:Int):=by rw[an ai,W]
 obtain⟨kg,ko,aG,e0⟩:∃g o,y=K ⟨g,o,M⟩/\wr ⟨g,o+k,M⟩=K ↑b:=by
  rcases(Rd.av H.2.2.1 B lR).2 with⟨q,_⟩|⟨g,o,c',C,hc⟩
  . omega
  simp only[i8,kW]at C;exact⟨g,o,C.1,hc k _ (Fc L)⟩
 subst aG;obtain⟨m,g,o,ma,me,nx,hm,T,en,i0,i1,i2,C,e2,aT,aW,X⟩:=(H.1.av B).at hb;obtain⟨I,aj⟩:=H.2.1 _ (hC X);obtain⟨na,nc,V⟩:=Rd.aP I;simp only[]at V aj;subst V;obtain rfl:t=K ⟨g,o,M⟩:=by rw[<-P];exact T
 have HM:=Aw (fd L (fd hm (Rd.av I B lR)));have aO:(b:Int)<(F:Int):=oM;obtain⟨sa,sc,G⟩:=AF f.1;subst G;have ax:=(r.1.av f.2.2.2).cell 11;simp only[BQ.cells]at ax;simp only[aA.o,P.o]at ax;have aF:=Aw (r.2.1.av f.2.2.2);have aE:=Aw (Rd.av H.2.2.1 B lR);clear L hm I X W C e2 T en i0 i1;go_wp2_with fail;refine(Sx na nc m.next ((w:Nat)+1) (h:Int) x (K ⟨kg,ko,M⟩) A d wr oM aF aE aj HM.2.2).mono ?_;rintro e u1 ⟨⟨q,rfl,hq⟩,rfl⟩;have R:Ae (q=true↔Sf (F.map Prod.fst) d b):=hq.trans ⟨λh=>⟨m,HM.2.1,h⟩, λ⟨m',l,p⟩=>by
  rw[HM.2.1]at l;cases l
  exact p⟩
 clear hq;have Q:Ae (∀z,z∈d.take (k+1)↔z∈d.take k\/z=(b:Int)):= λz=>by rw[List.take_add_one,HM.1,jL];simp
 cases q
 case true=>
  have aX:=f.2.2.1;go_wp2_with (at_builtin;refine wpList_append_own _ rfl _ _ 27 rfl U 2 k0 (iZ 0) 1 8 underlying27 aH aJ aK aM rfl dC _ j (Ad As j) rfl (f.1.alloc _) u1 1 1 [b] rfl rfl (Go.cell_one_new _ _ _) (λu hu=>by simp at hu;subst hu;rfl) oX oM (by have:=f.2.2.2.size;simp;omega) ?_;intro v' w3 au ae aI);have S:Ae (Ab w3 U 2 1 v' (j++[(b:Int)]).length (Ad As (j++[(b:Int)]))/\Ah U U w3):=by have o1:=f.1;refine⟨?_,(f.2.2.2.alloc f.2.2.2.size _).grown ae (by have:=f.2.2.2.size;simp;omega) (λi hi=>(o1.lt i hi).1)⟩;rw[kJ,jI];exact au
  clear au ae aI;go_roundw;case rel=>
   refine⟨k+1,j++[(b:Int)],oM,by go_num,S.1, λz=> ?_,by rw[jI];simp;omega,S.2⟩;rw[jL,f.2.1 z,Q.o z];simp only[jK,jO,kM];constructor
   . rintro(⟨l,p⟩|rfl)
     . exact⟨.inl l,p⟩
     exact⟨.inr rfl,R.1 (by trivial)⟩
   rintro⟨l|l,p⟩
   . exact .inl ⟨l,p⟩
   exact .inr l
  case measure=>exact oI
 case false=>
  go_wp2_with fail;go_roundw;case rel=>
   refine⟨k+1,j,oM,by go_num,f.1, λz=> ?_,by have:=f.2.2.1;omega,f.2.2.2⟩;rw[f.2.1 z,Q.o z];constructor
   . rintro⟨l,p⟩;exact⟨.inl l,p⟩
   rintro⟨l|l,p⟩
   . exact⟨l,p⟩
   subst l;have:=R.2 p;cases this
  case measure=>exact oI
def La(x y:Int):Int:=if x<y then -1 else if y<x then 1 else 0
theorem TO(x:Int)(w:Y):Ai Aq 202 #[x] w λe a=>e=Am false/\a=w:=by go_enter func202,ntmps202;go_wp2;go_ret;exact⟨rfl,rfl⟩
theorem Uz(x y:Int)(w:Y):Ai Aq 190 #[x,y] w λe h=>e=Am (La x y)/\h=w:=by
 have b:=Aw (TO x);have c:=Aw (TO y);unfold La;by_cases d:x<y
 . rw[jP d];go_enter func190,ntmps190;go_wp2_with fail;refine(b.o w).mono ?_;rintro e u ⟨rfl,rfl⟩;go_wp2_with fail;refine(c.o u).mono ?_;rintro e f ⟨rfl,rfl⟩;go_wp2_with fail;go_ret;exact⟨rfl,rfl⟩
 rw[jH d];by_cases a:y<x
 . rw[jP a];have g:x>y:=a;go_enter func190,ntmps190;go_wp2_with fail;refine(b.o w).mono ?_;rintro e u ⟨rfl,rfl⟩;go_wp2_with fail;refine(c.o u).mono ?_;rintro e f ⟨rfl,rfl⟩;go_wp2_with fail;go_ret;exact⟨rfl,rfl⟩
 rw[jH a];have g:¬x>y:=a;go_enter func190,ntmps190;go_wp2_with fail;refine(b.o w).mono ?_;rintro e u ⟨rfl,rfl⟩;go_wp2_with fail;refine(c.o u).mono ?_;rintro e f ⟨rfl,rfl⟩;go_wp2_with fail;go_ret;exact⟨rfl,rfl⟩
theorem TP(x:Int)(w:Y):Ai Aq 168 #[x] w λe a=>e=Am false/\a=w:=by go_enter func168,ntmps168;go_wp2;go_ret;exact⟨rfl,rfl⟩
theorem UB(x y:Int)(w:Y):Ai Aq 191 #[x,y] w λe h=>e=Am (La x y)/\h=w:=by
 have b:=Aw (TP x);have c:=Aw (TP y);unfold La;by_cases d:x<y
 . rw[jP d];go_enter func191,ntmps191;go_wp2_with fail;refine(b.o w).mono ?_;rintro e u ⟨rfl,rfl⟩;go_wp2_with fail;refine(c.o u).mono ?_;rintro e f ⟨rfl,rfl⟩;go_wp2_with fail;go_ret;exact⟨rfl,rfl⟩
 rw[jH d];by_cases a:y<x
 . rw[jP a];have g:x>y:=a;go_enter func191,ntmps191;go_wp2_with fail;refine(b.o w).mono ?_;rintro e u ⟨rfl,rfl⟩;go_wp2_with fail;refine(c.o u).mono ?_;rintro e f ⟨rfl,rfl⟩;go_wp2_with fail;go_ret;exact⟨rfl,rfl⟩
 rw[jH a];have g:¬x>y:=a;go_enter func191,ntmps191;go_wp2_with fail;refine(b.o w).mono ?_;rintro e u ⟨rfl,rfl⟩;go_wp2_with fail;refine(c.o u).mono ?_;rintro e f ⟨rfl,rfl⟩;go_wp2_with fail;go_ret;exact⟨rfl,rfl⟩
theorem po(g:Nat)(a b r:Int)(w:Y)(n:w g=K ↑a)(p:w ⟨g,1,M⟩=K ↑b)(k:r=if a=0 then b else a):
 Ai Aq 189 #[Z g 2 2] w λe q=>e=Am r/\q=w:=by
 have f:=Aw k;clear k;go_enter func189,ntmps189;go_wp2_with fail;go_loopw [8] (λi wr=>wr=w/\(i=Ag Af 0\/i=Ag Af 1/\a=0\/i=Ag Af 2/\a=0/\b=0)) (λi _=>2-(intOf i).toNat)
 case atStart=>exact⟨rfl,.inl rfl⟩
 obtain⟨rfl,rfl|⟨rfl,c⟩|⟨rfl,c,j⟩⟩:=hrel
 . by_cases e:a=0
   . have h:=Aw e;rw[e]at n;clear e;go_wp2_with fail;go_roundw;(case rel=>exact⟨by trivial,.inr (.inl ⟨by trivial,h⟩)⟩);simp[intOf]
   (have m:(a==0)=false:=by simpa using e);(have d:r=a:=by rw[f,jH e]);subst d;go_wp2_with fail;go_ret;exact⟨rfl,rfl⟩
 . have h:=Aw c;by_cases e:b=0
   . have l:=Aw e;rw[e]at p;clear e c;go_wp2_with fail;go_roundw;(case rel=>exact⟨by trivial,.inr (.inr ⟨by trivial,h,l⟩)⟩);simp[intOf]
   (have m:(b==0)=false:=by simpa using e);(have d:r=b:=by rw[f,jP c]);clear c;subst d;go_wp2_with fail;go_ret;exact⟨rfl,rfl⟩
 have d:r=0:=by rw[f,jP c,j]
 clear c j f;subst d;go_wp2_with fail;go_ret;exact⟨rfl,rfl⟩
theorem oQ(x y:LV):(if La (x.yn:Int) (y.yn:Int)=0 then La x.h y.h else La (x.yn:Int) (y.yn:Int))=LV.cmp x y:=by
 unfold LV.cmp La;by_cases a:x.yn<y.yn
 . have:(x.yn:Int)<(y.yn:Int):=oM;simp[a,this]
 have:¬(x.yn:Int)<(y.yn:Int):=oM;by_cases b:y.yn<x.yn
 . have:(y.yn:Int)<(x.yn:Int):=oM;simp[a,b]
 have:¬(y.yn:Int)<(x.yn:Int):=oM;simp[a,b]
theorem RK(x y:LV)(W:Y):Ai Aq 188 #[An x.enc.toArray,An y.enc.toArray] W λe a=>e=Am (LV.cmp x y)/\∃q H,a=Go.Sort.grow (W.drewN q) H:=by
 have p:=oQ x y;obtain⟨c,r,z,t,j,f,l⟩:=x;obtain⟨d,s,C,v,k,g,m⟩:=y;have I:Ae (∀w,Ai Aq 190 #[f,g] w λe a=>e=Am (La (f:Int) (g:Int))/\a=w):= λw=>Uz _ _ w
 have L:Ae (∀w,Ai Aq 191 #[c,d] w λe a=>e=Am (La c d)/\a=w):= λw=>UB _ _ w
 simp only[]at p;generalize La (f:Int) (g:Int)=c1 at I p;generalize La c d=c2 at L p;generalize LV.cmp ⟨c,r,z,t,j,f,l⟩ ⟨d,s,C,v,k,g,m⟩=T at p⊢;have P:=Aw p.symm;clear p;simp only[LV.enc];have F:=BT W #[c,Z r z t,Z j f l] #[d,Z s C v,Z k g m] 65 65;have E1:Ae (∃os,Ac (Ac W (Ak #[c,Z r z t,Z j f l] 65)) (Ak #[d,Z s C v,Z k g m] 65)=Go.Sort.grow W os):=⟨_,by rw[Go.Sort.alloc_eq_grow,Go.Sort.alloc_eq_grow,Go.Sort.grow_grow]⟩;go_enter func188,ntmps188;go_upto_region 1 with fail
 refine Av (λu=>Ae ((Ay u W #[c,Z r z t,Z j f l] 65/\Ay u ((W:Nat)+1) #[d,Z s C v,Z k g m] 65)/\∃os,u=Go.Sort.grow W os)) ⟨⟨F.1,F.2.1⟩,E1⟩ ?_
 rintro U E;clear F E1;have D:Ae (Ay U.drew W #[c,Z r z t,Z j f l] 65/\Ay U.drew ((W:Nat)+1) #[d,Z s C v,Z k g m] 65):=⟨E.1.1.av (At _),E.1.2.av (At _)⟩
 have N:Ae (∃os,U.drew=Go.Sort.grow (W.drewN 1) os):=by obtain⟨os,e⟩:=E.2;exact⟨os,by rw[e];rfl⟩
 clear E;have G:∀a,Ay a W #[c,Z r z t,Z j f l] 65->Ay a ((W:Nat)+1) #[d,Z s C v,Z k g m] 65->a.cell? W=K ↑c/\a.cell? ⟨W,2,M⟩=K (Z j f l)/\a.cell? ⟨(W:Nat)+1,0,M⟩=K ↑d/\a.cell? ⟨(W:Nat)+1,2,M⟩=K (Z k g m):= λa A B=>⟨A.cell 0,A.cell 2,B.cell 0,B.cell 2⟩
 refine wp_region_held_drew (S:= λa=>a.cell? W=K ↑c/\a.cell? ⟨W,2,M⟩=K (Z j f l)/\a.cell? ⟨(W:Nat)+1,0,M⟩=K ↑d/\a.cell? ⟨(W:Nat)+1,2,M⟩=K (Z k g m)) kR (G _ D.1 D.2) (λi=> ?_)
 generalize U.drew=R at D N i⊢;refine A5 0 ?_;refine A5 1 ?_;refine A5 2 ?_;refine A5 3 ?_;refine A5 4 ?_;refine A5 5 ?_;refine A5 7 ?_;refine A5 8 ?_;refine A5 9 ?_ (hw:=kR);refine A5 10 ?_ (hw:=kR);refine DU 6 ?_;intro n b;rw[jP kR];go_simp;refine(I.o R).mono ?_;rintro e V ⟨rfl,rfl⟩;go_simp;refine b.o _ _ i (λi=> ?_);clear b n;refine DU 11 ?_;intro n b;rw[jP kR];go_simp;refine(L.o V).mono ?_;rintro e O ⟨rfl,rfl⟩;go_simp;refine b.o _ _ i (λi=> ?_);clear b n;refine DU 12 ?_;intro n b;rw[jP kR];go_simp;refine b.o _ _ (G _ (D.1.av (Al _ _)) (D.2.av (Al _ _))) (λi=> ?_);clear b n;refine DU 13 ?_;intro n b;rw[jP kR];go_simp;refine(po O c1 c2 T _ ((Ay.new _ _ _).cell 0) ((Ay.new _ _ _).cell 1) P).mono ?_;rintro e X ⟨rfl,rfl⟩;go_simp;refine b.o _ _ i (λi=> ?_);clear b n;refine A5 14 ?_ (hw:=kR);refine wpAnyH_done kR ?_ _;clear i G;have Q:Ae (∃q H,Ac O (Ak #[c1,c2] 3)=Go.Sort.grow (W.drewN q) H):=by obtain⟨os,e⟩:=N.o;exact⟨1,_,by rw[e,Go.Sort.alloc_eq_grow,Go.Sort.grow_grow]⟩
 go_wp2;go_ret;exact⟨rfl,Q⟩
structure nH(w u:Y)(v:BQ)(y:Qh)(sv:J):Prop where
 body:Ay u w v.cells 111
 ty:Ay u ((w:Nat)+1) #[y.aU,y.at_,y.depth,sv] 209
 cq:Ah w w u
theorem nH.av{w u c:Y}{v:BQ}{y:Qh}{b:J}(h:nH w u v y b)(a:Ah u u c):nH w c v y b:=⟨h.body.av a,h.ty.av a,Ar h.cq lR a⟩
theorem UG(v:BQ)(p:MP)(q:Nat)(f:MF)(y:Qh)(s da:Option Addr)(l dc B:Nat)(D:List Int)(w:Y)(bG:p.aB.length<=1048576)(aO:AX p 0)(hf:p.aB[q]?=K f)(aQ:Qi w (Z v.f.a v.f.n v.f.c) p.aB)(L:Rd w 4 (Z v.c.a v.c.n v.c.c) f.aU (Ad MI.cells f.aU))(br:f.aU.length<=1024)(hy:qf w (Z s y.dT l) y.dT)(aW:y.dT.length= ↑f.aU)(hd:Rd w 1 (Z da B dc) B (Ad As D))(aK: ↑D=B)(aM:B= ↑p.aB):
 Ai Aq 130 #[An v.cells,An #[y.aU,y.at_,y.depth,Z s y.dT l],Z da B dc] w λe w'=>e=Am (Hp p f y D)/\Ah w w w':=by
 have C:=BT w v.cells #[y.aU,y.at_,y.depth,Z s y.dT l] 111 209;obtain⟨_,_,aj⟩:=L.aP;simp only[i8]at aj;have bj:y.dT.length<=1024:=oM;have H:=Aw (fd aO (fd aQ (fd hf (fd hy (fd hd L)))));have A:=Aw (fd aW (fd aK (fd aM aj.2.1)));obtain⟨ca,aJ⟩:∃ca,v.c.a=ca:=⟨_,rfl⟩;have aG:=Aw aJ;clear aO aQ hf hy hd L aW aK aM aj aJ;obtain⟨k,aq⟩:∃k,y.dT.length=k:=⟨_,rfl⟩;have aY:=Aw aq;rw[aq]at C⊢bj;clear aq;go_enter func130,ntmps130;go_upto_region 1 with fail
 refine Av (λu=>Ae (nH w u v y (Z s k l))) ⟨C.1,C.2.1,C.2.2⟩ ?_;rintro U T;clear C;have z2:=(CP T.ty).2.2.1;have p7:=T.body.cell 7;simp only[BQ.cells]at p7;simp only[A.2.2.2,aG.o]at p7;go_wp2_with fail;clear z2 p7;go_loopw [7,18] (λm i wr=>∃(m0:Int) (j:Nat),m=iZ m0/\i=iZ j/\j<=f.aU.length/\Ae (m0=EZ p f.aU y.dT D y.depth j)/\Ae (nH w wr v y (Z s k l))) (λ_ i _=>f.aU.length-(intOf i).toNat)
 case atStart=>exact⟨y.depth,0,rfl,rfl,oM,rfl,T⟩
 case round=>
 clear T;obtain⟨O,j,rfl,rfl,hj,HM,E1⟩:=hrel;by_cases aR:j<f.aU.length;case neg=>obtain rfl:j=f.aU.length:=oM;have ai:O=Hp p f y D:=HM.o;clear HM;subst ai;go_wp2_with fail;go_ret;exact⟨rfl,E1.cq⟩
 have bB:(j:Int)<(f.aU.length:Int):=oM;obtain⟨x,hx⟩:∃x,f.aU[j]?=K x:=⟨_,an aR⟩;obtain⟨gi,oi,ci,ei,x0,x1,x2,x3⟩:=XC (H.2.2.2.2.2.av E1.cq lR) hx;simp only[i8]at ei;obtain rfl:ca=K ⟨gi,oi,M⟩:=by rw[<-aG];exact ei.1
 have bf:Ae (x.op=28->∃(c:Nat) (fq:MF),x.a=c/\p.aB[c]?=K fq):= λe=>(H.1.ft H.2.2.1 hx).callee e
 have HX:=Aw hx;clear ei hx;go_upto_region 5 with fail
 have E4:Ae (nH w (Ac wr (Ak #[iZ x.op,iZ x.a,iZ x.b,iZ x.c] 25)) v y (Z s k l)/\Ay (Ac wr (Ak #[iZ x.op,iZ x.a,iZ x.b,iZ x.c] 25)) wr.heap.size #[iZ x.op,iZ x.a,iZ x.b,iZ x.c] 25):=⟨E1.av (Al _ _),Ay.new _ _ _⟩
 refine Av (λu=>Ae (nH w u v y (Z s k l)/\Ay u wr.heap.size #[iZ x.op,iZ x.a,iZ x.b,iZ x.c] 25)) E4 ?_
 rintro U4 t;clear E4 x0 x1 x2 x3;generalize wr.heap.size=X at t⊢;have i0:=(CP t.2).1;by_cases N:x.op=28;case neg=>
  have ai:Ae (O=EZ p f.aU y.dT D y.depth (j+1)):=by (have e:EZ p f.aU y.dT D y.depth (j+1)=EZ p f.aU y.dT D y.depth j:=by simp only[EZ,HX.o,jH N]);exact HM.trans e.symm
  have bC:(x.op==28)=false:=by simpa using N
  go_wp2_with fail;go_roundw;case rel=>exact⟨O,j+1,rfl,by go_num,oM,ai,t.1⟩
  exact oI
 rw[N]at i0;obtain⟨d,fq,aF,ae⟩:=bf.o N;have aZ:=Aw aF;have bx:=(f7.1 ae).1;obtain⟨gk,ok,ck,aa,g,aS,n0,_,_,_⟩:=N5 H.2.1 ae;simp only[i8]at aa;obtain⟨h1,h3,h4,h6,h7,h9,rfl⟩:=I8 aS;simp only[]at n0;have aH:=Aw (fd aa.1 aa.2.1);obtain⟨G,os,a1,sr,c1,es,aT,aA⟩:=px H.2.2.2.1 (show j<y.dT.length by rw[A.1];exact aR);subst es;obtain⟨R,aE⟩:∃R,sr.length=R:=⟨_,rfl⟩;rw[aE]at aA;obtain⟨Q,ax⟩:∃Q,fq.aD.length=Q:=⟨_,rfl⟩;rw[ax]at n0;obtain⟨V,au⟩:∃z,D[d]?=K z:=⟨_,an (by have:=A.2;omega)⟩;obtain⟨F,P,ea,kz⟩:∃F P,da=K ⟨F,P,M⟩/\w.cell? ⟨F,P+d,M⟩=K (iZ V):=by
  rcases H.2.2.2.2.1.2 with⟨e0,_⟩|⟨g1,o1,bq,e1,L⟩
  . have:=A.2.2.1;omega
  simp only[i8,kW]at e1;exact⟨g1,o1,e1.1,L d _ (Fc au)⟩
 subst ea;obtain⟨d1,bg⟩:∃d1,IntKind.i64.wrap ((R:Int)-(Q:Int))=d1:=⟨_,rfl⟩;obtain⟨E,bi⟩:∃E,IntKind.i64.wrap (d1+V)=E:=⟨_,rfl⟩;have aX:Ae (EZ p f.aU y.dT D y.depth (j+1)=max O E):=by
  have e1:Pd p y.dT D j x=E:=by unfold Pd;rw[aT,aF,i9,ae,KG au];simp only[mL,aE,ax];rw[bg,bi]
  have e:EZ p f.aU y.dT D y.depth (j+1)=max (EZ p f.aU y.dT D y.depth j) (Pd p y.dT D j x):=by simp only[EZ,HX.o,jP N]
  rw[<-HM,e1]at e;exact e
 have bu:(d:Int)<(p.aB.length:Int):=oM;have bt:(d:Int)<(B:Int):=by have:=A.2.2.1;omega
 have bH:(j:Int)<(k:Int):=by have:=A.1;have:=aY.o;omega
 have HS:Ae (∀W:Y,nH w W v y (sO G os k l)->Ay W X #[x.op,x.a,x.b,x.c] 25->W ⟨(w:Nat)+1,3,M⟩=K (sO G os k l)/\W ⟨G,os+j,M⟩=K (Z a1 R c1)/\W ⟨w,2,M⟩=K (sO gk ok p.aB v.f.c)/\W ⟨X,1,M⟩=K ↑d/\W ⟨gk,ok+d*4,M⟩=K (Z h1 Q h3)/\W ⟨F,P+d,M⟩=K ↑V):= λW I hB=>by
  refine⟨(CP I.ty).2.2.2,Az I.cq aA,?_,?_,Az I.cq n0,Az I.cq kz⟩
  . have:=I.body.cell 2;simp only[BQ.cells]at this;simp only[aH.1,aH.2]at this;exact this
  have:=(CP hB).2.1;rw[aZ]at this;exact this
 clear aT aE ax au ae aS aF aa n0 aA kz HM;go_upto_region 6 with fail
 have r:=Aw (fd (t.1.av (At _)) (t.2.av (At _)));refine wp_region_held_drew (S:= λW=>W ⟨(w:Nat)+1,3,M⟩=K (sO G os k l)/\W ⟨G,os+j,M⟩=K (Z a1 R c1)/\W ⟨w,2,M⟩=K (sO gk ok p.aB v.f.c)/\W ⟨X,1,M⟩=K ↑d/\W ⟨gk,ok+d*4,M⟩=K (Z h1 Q h3)/\W ⟨F,P+d,M⟩=K ↑V) kR (HS.o _ r.1 r.2) (λaI=> ?_)
 clear t i0;generalize U4.drew=UD at r aI⊢;refine A5 0 ?_;refine A5 1 ?_;refine A5 2 ?_;refine A5 3 ?_;refine A5 4 ?_;refine A5 5 ?_;refine A5 6 ?_;refine A5 7 ?_;refine A5 8 ?_;refine A5 9 ?_;refine A5 10 ?_;refine A5 11 ?_;refine A5 12 ?_;refine A5 13 ?_;refine A5 14 ?_;refine A5 15 ?_;refine A5 16 ?_;refine A5 17 ?_;refine wpAnyH_done kR ?_ _;go_simp;have ha:=(HS.o _ r.1 r.2).2.2.2.1;have hb:=(HS.o _ r.1 r.2).2.2.2.2.2;clear aI;go_wp2_with fail;go_roundw;case rel=>exact⟨max O E,j+1,rfl,by go_num,oM,aX.symm,r.1⟩
 exact oI
theorem Qd.nn{n:Nat}{rt:Nat->Prop}{C:Nat->Int}{r:Int}(h:Qd E n rt a C r):r=-1\/0<=r:=by
 rcases h with⟨h,_⟩|⟨s,_,m⟩
 . exact .inl h
 exact .inr m.nn
theorem PZ.nn{n:Nat}{D L:Nat->Nat->Bool}{iv:Nat->Int}{rt:Nat->Prop}{b:List Nat}{C:Nat->Int}{r:Int}(h:PZ E n D L iv rt b a C r):r=-1\/0<=r:=by
 induction h with
 |nil h=>exact h.nn
 |bad _=>exact .inl rfl
 |step _ _ c=>exact c
theorem Gi.nn{p:MP}{a:Int}{C:List Int}{v:Int}(h:Gi p a C v):v=-1\/0<=v:=by
 rcases h with⟨_,h⟩|⟨f,r,_,_,_,_,_,h⟩
 . exact .inl h
 rcases h with⟨_,h⟩|⟨_,_,_,_,_,_,_,_,_,h⟩
 . exact .inl h
 exact h.nn
theorem Bl.free{xs:List MI}{r:Ee}(h:Bl xs r)(a:r.aU=0):Bb xs/\∃x,xs[xs.length-1]?=K x/\Ij x=false:=by
 cases h with
 |good g x1 o1=>exact⟨g,_,x1,o1⟩
 |_=>simp[JB]at a
theorem Z1{w:Y}{v:VP}{p:MP}{m:Nat}{f:MF}{g:VF}{r:Ee}(l:p.small)(j:AX p 0)(h:ET w v p)(d:p.aB[m]?=K f)(s:FH w g f)(q:Bl f.aU r)(n:r.aU=0):Qj w v p g f:=by
 obtain⟨b,z,u,i⟩:=q.free n;refine⟨l,j,l.func f (hC d),h,s,b.1,b.2.1,b.2.2, λx a=> ?_, λk x a t=> ?_⟩
 . obtain⟨k,c⟩:=kq a;exact j.ft d c
 have y:=(f7.1 a).1;refine kV λe=> ?_
 have c:k= ↑f.aU-1:=oM
 rw[c,u]at a;obtain rfl:=jM a;rw[t]at i;cases i
theorem K6.low{u:Y}{base:Nat}{s:J}{F:List (List Int×J)}(h:K6 u base s F){a:Addr}(b:a.block<base)(x:J):K6 (u.setCell a x) base s F:=⟨kQ h.row b x,⟨λy c=>kQ (h.eT.own y c) b x,h.eT.sep⟩⟩
theorem RT(v:BQ)(p:MP)(f:MF)(r:Ee)(w:Y)(T:Qj w ⟨Z v.r.a v.r.n v.r.c,Z v.k.a v.k.n v.k.c,Z v.f.a v.f.n v.f.c,Z v.t.a v.t.n v.t.c⟩ p ⟨Z v.p.a v.p.n v.p.c,Z v.l.a v.l.n v.l.c,Z v.c.a v.c.n v.c.c⟩ f)(S:v.rs=f.cu)(P:Bl f.aU r)(O:r.aU=0)(Q:JU w (Z v.b.a v.b.n v.b.c) (Z v.o.a v.o.n v.o.c) (Z v.i.a v.i.n v.i.c) (Z v.q.a v.q.n v.q.c) r):
 Ai Aq 241 #[An #[],An v.cells] w λe X=>∃(y:Qh) (h:Option Addr) (j:Nat),e=Am (An #[y.aU,y.at_,y.depth,Z h y.dT j])/\y=PL f.aU (Ib p f r.aC (r.dr.map Int.toNat) NM)/\(∃(B:Nat) (F:List (List Int×J)), ↑w<=B/\K6 X B (Z h y.dT j) F/\F.map Prod.fst=y.dT)/\Ah w w X:=by
 have H:=Aw (fd T (fd S (fd P (fd O Q))));clear T S P O Q;have m:=GG w #[] v.cells #[iZ 0,iZ 0,iZ 0,sN] 90 111 209;go_enter func241,ntmps241;go_upto_region 1 with fail
 refine Av (λu=>Ae (Ay u ((w:Nat)+1) v.cells 111/\Ay u ((w:Nat)+1+1) #[iZ 0,iZ 0,iZ 0,sN] 209/\Ah w w u)) ⟨m.2.1,m.2.2.1,m.2.2.2⟩ ?_
 rintro U g;clear m;obtain⟨p0,p1,p2,p3,p4,W,p6,p7,p8,p9,ae,ai,aj,aq,au⟩:=CY g.1;rw[H.2.1]at W;go_wp2_with fail;clear p0 p1 p2 p3 p4 W p6 p7 p8 p9 ae ai aj aq au;refine(RU U ⟨Z v.r.a v.r.n v.r.c,Z v.k.a v.k.n v.k.c,Z v.f.a v.f.n v.f.c,Z v.t.a v.t.n v.t.c⟩ p ⟨Z v.p.a v.p.n v.p.c,Z v.l.a v.l.n v.l.c,Z v.c.a v.c.n v.c.c⟩ f r v.co v.at_ (Z v.b.a v.b.n v.b.c) (Z v.o.a v.o.n v.o.c) (Z v.i.a v.i.n v.i.c) (Z v.q.a v.q.n v.q.c) (H.1.av g.2.2) H.2.2.1 H.2.2.2.1 (H.2.2.2.2.jw g.2.2 lR)).mono ?_;rintro e u1 ⟨s,F,rfl,D,x,_,_,C⟩;generalize V:PL f.aU (Ib p f r.aC (r.dr.map Int.toNat) NM)=y at x⊢;have R:OT u1 s y.dT:=x▸D.rd;obtain⟨h,j,es⟩:∃a c,s=Z a y.dT c:=by obtain⟨_,_,h2,_⟩:=R;exact h2.aP
 subst es;have A:=Aw (fd V (fd x D));have d:=Aw (fd (g.2.1.av C) (fd (Ar g.2.2 lR C) g.2.1.lt));have aa:=g.2.2.size;clear V x R D C g;obtain⟨E,I,L,N⟩:=CP d.1;have f0:=d.1.frozen 0;have f1:=d.1.frozen 1;have f2:=d.1.frozen 2;have f3:=d.1.frozen 3;go_wp2_with fail;have G:Ae _:=(((d.1.set 0 y.aU).set 1 y.at_).set 2 y.depth).set 3 (Z h y.dT j);simp only[kB,kX,kU]at G;clear E I L N;obtain⟨E,I,L,N⟩:=CP G;have z:=d.2.2;exact kA (v:=An #[y.aU,y.at_,y.depth,Z h y.dT j]) (by simp[results,results241,go_sem,E,I,L,N]) rfl ⟨y,h,j,rfl,A.1.symm,⟨U,F,aa,(((A.2.2.low (a:=⟨(w:Nat)+1+1,0,M⟩) z y.aU).low (a:=⟨(w:Nat)+1+1,1,M⟩) z y.at_).low (a:=⟨(w:Nat)+1+1,2,M⟩) z y.depth).low (a:=⟨(w:Nat)+1+1,3,M⟩) z (Z h y.dT j),A.2.1⟩,(((d.2.1.setCell (by show(w:Nat)<= ↑w+1+1;omega) _).setCell (by show(w:Nat)<= ↑w+1+1;omega) _).setCell (by show(w:Nat)<= ↑w+1+1;omega) _).setCell (by show(w:Nat)<= ↑w+1+1;omega) _⟩
end Go.Proofs.YtkgohaigebcgoaaGreatDoor
