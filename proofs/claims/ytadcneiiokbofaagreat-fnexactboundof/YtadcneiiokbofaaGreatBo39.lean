import Derived.Test.YtadcneiiokbofaaGreatBo38
namespace Go.Proofs.YtadcneiiokbofaaGreat
open Go.ChangeShapes Go.WideShapes Go.ChangeAt Go.RowKit Go.Proofs.Tryz
set_option linter.unusedVariables false
open Go.Value renaming slice → Z,bool → An,int → Ag,agg → Am,tuple → Ao
open Option renaming some → K,none → M
open Go renaming World → Y,Calls → Ai,Value → J,TypeId → Aj
open Go.RowKit renaming Hid → Ae,Below → Ah
open Go.Ending renaming returned → Al
open Go.Proofs.Tryz renaming prog → Ap
open List renaming flatMap → Ad
open Go.IntKind renaming i64 → Af
open Go.Obj renaming cells → Ak
open Go.World renaming alloc → Ac,setCell → Aa,ownsRow → Ab
set_option maxHeartbeats 8000000
set_option maxRecDepth 100000
variable {b g c:Nat}
theorem GX(z:Int)(w:Y):Ai Ap 151 #[z] w λe d=>e=Al (An (decide (0<=z/\z<=4294967295)))/\d=w:=by
 by_cases a:0<=z
 . by_cases c:z<=4294967295
   . rw[decide_eq_true ⟨a,c⟩];have b:z>=0:=a;go_enter func151,ntmps151;go_wp2_with fail;go_ret;exact⟨rfl,rfl⟩
   rw[mU (λh=>c h.2)];have b:z>=0:=a;go_enter func151,ntmps151;go_wp2_with fail;go_ret;exact⟨rfl,rfl⟩
 rw[mU (λh=>a h.1)];have b:¬z>=0:=a;go_enter func151,ntmps151;go_wp2_with fail;go_ret;exact⟨rfl,rfl⟩
structure RwS(w:Y)(n gS gB:Nat)(I:List Nat)(L:List Int):Prop where
 st:∀b,b<n->w ⟨gS,b,M⟩=K ↑(jf I b:Int)/\jf I b<n
 su:∀c,c<n->w ⟨gB,c,M⟩=K ↑(cf L c)
theorem Hl(p n x N v G:Nat)(I:List Nat)(L:List Int)(a:Option Addr)(c:Nat)(d:List Int)(w:Y)(hn:n<=1048576)(W:w ⟨p,16,M⟩=K (sG x n N))(A:RwS w n x v I L)(hl:d.length<=1048576)(B:Rd w 1 (Z a d c) d (Ad As d))(j:∀z∈d,∃b:Nat,z=(b:Int)/\b<n):
 Ai Ap 125 #[.pointer p,sG v n G,Z a d c] w λe U=>∃m,e=Al (iZ m)/\U=w/\Cm (λb=>cf L (jf I b)) (λb=>(b:Int)∈d) m:=by
 have H:=Av (d5 A (d5 B j));clear A B j;go_enter func125,ntmps125;go_wp2_with fail;go_loopw [7,12] (λm i wr=>∃(k:Nat) (f:Int),k<= ↑d/\m=iZ f/\i=iZ k/\wr=w/\Ae (Cm (λb=>cf L (jf I b)) (λb=>(b:Int)∈d.take k) f)) (λ_ i _=> ↑d-(intOf i).toNat)
 case atStart=>exact⟨0,0,oM,rfl,rfl,rfl,Cm.none (λb j=>by simp at j)⟩
 obtain⟨k,f,hk,rfl,rfl,rfl,r⟩:=hrel;by_cases C:k< ↑d
 case neg=>go_wp2_with fail;go_ret;exact⟨f,rfl,rfl,by have:=r.o;rw[mC (show ↑d<=k from oM)]at this;exact this⟩
 have ae:(k:Int)<(d:Int):=oM;have l:d[k]?=K d[k]:=an C;obtain⟨b,eb,P⟩:=H.2.2 d[k] (nG C);rw[eb]at l;obtain⟨g,o,O,V⟩:∃g o,a=K ⟨g,o,M⟩/\wr ⟨g,o+k,M⟩=K ↑(b:Int):=by
  rcases H.2.1.2 with⟨q,_⟩|⟨g,o,c',u,Q⟩
  . omega
  simp only[lB,mB]at u;exact⟨g,o,u.1,Q k _ (Di l)⟩
 subst O;obtain⟨T,D⟩:=H.1.st b P;have E:=H.1.su _ D;have X:(b:Int)<(n:Int):=oM;have R:(jf I b:Int)<(n:Int):=oM;have F:=Av l;clear l eb;have t:Ae (Cm (λb=>cf L (jf I b)) (λb=>(b:Int)∈d.take (k+1)) (max f (cf L (jf I b)))):=r.add λy=>by
  rw[List.take_add_one,F.o,lT];simp only[Option.toList,lw,mK,nJ];constructor
  . rintro(h|h)
    . exact .inl h
    exact .inr oM
  rintro(h|rfl)
  . exact .inl h
  exact .inr rfl
 generalize S:cf L (jf I b)=y at E t;clear S;generalize jf I b=s at T D E R;go_wp2_with fail;go_roundw;case rel=>exact⟨k+1,max f y,oM,by trivial,by go_num,by trivial,t⟩
 exact oI
theorem RJ(r k f t g ll cc b o i q:FA)(rs co at_:Int)(n gk ok:Nat)(w:Y)(hn:n<f.n)
 (j:w ⟨gk,ok+n*4,M⟩=K (Z g.a g.n g.c)) (l:w ⟨gk,ok+n*4+1,M⟩=K ↑rs) (m:w ⟨gk,ok+n*4+2,M⟩=K (Z ll.a ll.n ll.c)) (p:w ⟨gk,ok+n*4+3,M⟩=K (Z cc.a cc.n cc.c)):
 Ai Ap 91 #[Am #[Z r.a r.n r.c,Z k.a k.n k.c,Z (K ⟨gk,ok,M⟩) f.n f.c,Z t.a t.n t.c],n,Am #[co,at_,Z b.a b.n b.c,Z o.a o.n o.c,Z i.a i.n i.c,Z q.a q.n q.c]] w λe w'=>e=Al (Am (B2.cells ⟨r,k,⟨K ⟨gk,ok,M⟩,f.n,f.c⟩,t,g,rs,ll,cc,(n:Int),co,at_,b,o,i,q⟩))/\Ah w w w':=by
 have s:=Fs w #[Z r.a r.n r.c,Z k.a k.n k.c,Z (K ⟨gk,ok,M⟩) f.n f.c,Z t.a t.n t.c] #[co,at_,Z b.a b.n b.c,Z o.a o.n o.c,Z i.a i.n i.c,Z q.a q.n q.c] #[Z M 0 0,Z M 0 0,Z M 0 0,Z M 0 0,Z M 0 0,Ag Af 0,Z M 0 0,Z M 0 0,Ag Af 0,Ag Af 0,Ag Af 0,Z M 0 0,Z M 0 0,Z M 0 0,Z M 0 0] 37 84 164;have y:Ae (w ⟨gk,ok+n*4,M⟩=K (Z g.a g.n g.c)/\w ⟨gk,ok+n*4+1,M⟩=K ↑rs/\w ⟨gk,ok+n*4+2,M⟩=K (Z ll.a ll.n ll.c)/\w ⟨gk,ok+n*4+3,M⟩=K (Z cc.a cc.n cc.c)):=⟨j,l,m,p⟩
 clear j l m p;unfold B2.cells;go_enter func91,ntmps91;go_upto_region 1 with fail
 refine Ax (λu=>Ae (AA u w #[Z r.a r.n r.c,Z k.a k.n k.c,Z (K ⟨gk,ok,M⟩) f.n f.c,Z t.a t.n t.c] 37/\AA u ((w:Nat)+1) #[co,at_,Z b.a b.n b.c,Z o.a o.n o.c,Z i.a i.n i.c,Z q.a q.n q.c] 84/\AA u ((w:Nat)+1+1) #[Z M 0 0,Z M 0 0,Z M 0 0,Z M 0 0,Z M 0 0,Ag Af 0,Z M 0 0,Z M 0 0,Ag Af 0,Ag Af 0,Ag Af 0,Z M 0 0,Z M 0 0,Z M 0 0,Z M 0 0] 164/\Ah w w u)) s ?_
 rintro U h;clear s;obtain⟨p0,p1,p2,p3⟩:=A7 h.1;obtain⟨y0,y1,y2,y3,y4,y5⟩:=Eg h.2.1;obtain⟨j,l,m,p⟩:=y.o;rw[<-h.2.2.2.cell (g8 j)]at j;rw[<-h.2.2.2.cell (g8 l)]at l;rw[<-h.2.2.2.cell (g8 m)]at m;rw[<-h.2.2.2.cell (g8 p)]at p;have d:Ae (AA U ((w:Nat)+1+1) #[Z M 0 0,Z M 0 0,Z M 0 0,Z M 0 0,Z M 0 0,Ag Af 0,Z M 0 0,Z M 0 0,Ag Af 0,Ag Af 0,Ag Af 0,Z M 0 0,Z M 0 0,Z M 0 0,Z M 0 0] 164):=h.2.2.1;have S:=d.cell 0;have aj:=d.frozen 0;have T:=d.cell 1;have am:=d.frozen 1;have z2:=d.cell 2;have aE:=d.frozen 2;have z3:=d.cell 3;have aF:=d.frozen 3;have z4:=d.cell 4;have aG:=d.frozen 4;have z5:=d.cell 5;have aH:=d.frozen 5;have z6:=d.cell 6;have aI:=d.frozen 6;have z7:=d.cell 7;have aJ:=d.frozen 7;have z8:=d.cell 8;have aM:=d.frozen 8;have z9:=d.cell 9;have aP:=d.frozen 9;have V:=d.cell 10;have ao:=d.frozen 10;have W:=d.cell 11;have aq:=d.frozen 11;have X:=d.cell 12;have au:=d.frozen 12;have ae:=d.cell 13;have aw:=d.frozen 13;have ah:=d.cell 14;have aA:=d.frozen 14;simp only[lE,lC,lF]at S T z2 z3 z4 z5 z6 z7 z8 z9 V W X ae ah;have aQ:(n:Int)<(f.n:Int):=oM;have s1:¬gk= ↑w+1+1:=by have:=y.1;have:=g8 this;simp only[]at this;omega
 go_region;have G:Ae _:=(((((((((((((((d.set 0 (Z r.a r.n r.c)).set 1 (Z k.a k.n k.c)).set 2 (Z (K ⟨gk,ok,M⟩) f.n f.c)).set 3 (Z t.a t.n t.c)).set 4 (Z g.a g.n g.c)).set 5 rs).set 6 (Z ll.a ll.n ll.c)).set 7 (Z cc.a cc.n cc.c)).set 8 n).set 9 co).set 10 at_).set 11 (Z b.a b.n b.c)).set 12 (Z o.a o.n o.c)).set 13 (Z i.a i.n i.c)).set 14 (Z q.a q.n q.c));simp only[lM,lU,lX]at G;refine AY (λu=>Ae (AA u ((w:Nat)+1+1) #[Z r.a r.n r.c,Z k.a k.n k.c,Z (K ⟨gk,ok,M⟩) f.n f.c,Z t.a t.n t.c,Z g.a g.n g.c,rs,Z ll.a ll.n ll.c,Z cc.a cc.n cc.c,n,co,at_,Z b.a b.n b.c,Z o.a o.n o.c,Z i.a i.n i.c,Z q.a q.n q.c] 164/\Ah w w u)) ?_ ?_
 . exact⟨AA.a7 (b:=(w:Nat)+1+1) (t:=164) G (At _),Ar (((((((((((((((h.2.2.2.setCell oS _).setCell oS _).setCell oS _).setCell oS _).setCell oS _).setCell oS _).setCell oS _).setCell oS _).setCell oS _).setCell oS _).setCell oS _).setCell oS _).setCell oS _).setCell oS _).setCell oS _) lR (At _)⟩
 rintro U2 x;clear G d h p0 p1 p2 p3 y0 y1 y2 y3 y4 y5 j l m p S aj T am z2 aE z3 aF z4 aG z5 aH z6 aI z7 aJ z8 aM z9 aP V ao W aq X au ae aw ah aA s1;obtain⟨z,A,H,I,L,N,O,P,Q,R,B,C,D,E,F⟩:=CT (v:=⟨r,k,⟨K ⟨gk,ok,M⟩,f.n,f.c⟩,t,g,rs,ll,cc,(n:Int),co,at_,b,o,i,q⟩) x.1;simp only[]at z A H I L N O P Q R B C D E F;go_wp2;exact lO (v:=Am #[Z r.a r.n r.c,Z k.a k.n k.c,Z (K ⟨gk,ok,M⟩) f.n f.c,Z t.a t.n t.c,Z g.a g.n g.c,rs,Z ll.a ll.n ll.c,Z cc.a cc.n cc.c,n,co,at_,Z b.a b.n b.c,Z o.a o.n o.c,Z i.a i.n i.c,Z q.a q.n q.c]) (by simp[results,results91,go_sem,z,A,H,I,L,N,O,P,Q,R,B,C,D,E,F]) rfl ⟨rfl,x.2⟩
structure Tu(w:Y)(v:B2)(p:MP)(fi:Int)(F:List (MB×J))(xs:List MI)(r:CS):Prop where
 bs:JR w v F xs
 nx:∀z∈F,Ux w z.2 z.1/\z.1.next.length<=1048576
 cd:Tw w v xs p.dk
 tn:p.e8.length<=1048576
 tr:Rd w 4 (Z v.t.a v.t.n v.t.c) p.e8 (Ad MT.cells p.e8)
 nu:v.nu=fi
 eb:F.map Prod.fst=r.a8
 iq:YN xs r
 ls:MJ w (Z v.q.a v.q.n v.q.c) r.gX
 ln:v.q.n= ↑r.gX
 od:Rd w 1 (Z v.o.a v.o.n v.o.c) r.gY (Ad As r.gY)
section
variable {w u:Y} {v:B2} {p:MP} {fi:Int} {F:List (MB×J)} {xs:List MI} {r:CS}
theorem Tu.a7(H:Tu w v p fi F xs r)(a:Ah w w u):Tu u v p fi F xs r:=⟨H.bs.a7 a, λz b=>⟨(H.nx z b).1.a7 a lR,(H.nx z b).2⟩,H.cd.a7 a,H.tn,H.tr.a7 a lR,H.nu,H.eb,H.iq,H.ls.a7 a lR,H.ln,H.od.a7 a lR⟩
theorem Tu.fl(H:Tu w v p fi F xs r):F.length=r.a8.length:=by rw[<-H.eb,mD]
theorem Tu.loop(H:Tu w v p fi F xs r){l:ML}(g:l∈r.gX){y:FA}(i:Rd w 1 (Z y.a y.n y.c) l.a8 (Ad As l.a8)):∃(h:Nat) (m:MB),l.head=(h:Int)/\h< ↑r.a8/\Uz w v y p fi F xs h l m:=by obtain⟨⟨h,b,d⟩,e,f,j⟩:=H.iq.loop l g;exact⟨h,_,b,d,H.bs,H.nx,H.cd,H.tn,H.tr,H.nu,b,by rw[H.eb];exact an d,i,f,by rw[H.fl];exact e⟩
end
structure XS(w u:Y)(v:B2):Prop where
 body:AA u w v.cells 164
 ik:AA u ((w:Nat)+1) #[iZ 0,sN,sN] 92
 ej:Ah w w u
theorem XS.a7{w u b:Y}{v:B2}(h:XS w u v)(a:Ah u u b):XS w b v:=⟨h.body.a7 a,h.ik.a7 a,Ar h.ej lR a⟩
theorem Hq(v:B2)(p:MP)(fi:Int)(F:List (MB×J))(xs:List MI)(r:CS)(w:Y)(t:Tu w v p fi F xs r):
 Ai Ap 92 #[Am v.cells] w λe w'=>(∃(h:Int) (x y:FA) (b:Bool),e=Al (Ao #[Am #[h,Z x.a x.n x.c,Z y.a y.n y.c],b])/\(b=true->∃(k:Nat) (l:ML) (n:Int),r.gX[k]?=K l/\l.head=h/\n≠0/\AU p fi xs r.a8 l n/\∀l'∈r.gX.take k,AU p fi xs r.a8 l' 0)/\(b=false->∀l∈r.gX,AU p fi xs r.a8 l 0))/\Ah w w w':=by
 have H:=Av t;have aH:r.gX.length<=1024:=t.iq.nl;have HN:=Av t.ln;obtain⟨qa,am⟩:∃qa,v.q.a=qa:=⟨_,rfl⟩;have V:=Av am;clear am t;have L:=Bu w v.cells #[iZ 0,sN,sN] 164 92;go_enter func92,ntmps92;go_upto_region 1 with fail
 refine Ax (λu=>Ae (XS w u v)) ⟨L.1,L.2.1,L.2.2⟩ ?_;rintro U d;clear L;have D:=d.body.cell 14;simp only[B2.cells]at D;simp only[HN.o,V.o]at D;go_wp2_with fail;clear D;go_loopw [10] (λi wr=>∃k:Nat,k<= ↑r.gX/\i=iZ k/\Ae (XS w wr v/\∀l∈r.gX.take k,AU p fi xs r.a8 l 0)) (λi _=> ↑r.gX-(intOf i).toNat)
 case atStart=>exact⟨0,oM,rfl,d, λl C=>by simp at C⟩
 case round=>
 clear d;obtain⟨k,hk,rfl,d⟩:=hrel;by_cases aq:k< ↑r.gX
 case neg=>
  have E:=d.1.ik.cell 0;have G:=d.1.ik.cell 1;have I:=d.1.ik.cell 2;have f0:=d.1.ik.frozen 0;have f1:=d.1.ik.frozen 1;have f2:=d.1.ik.frozen 2;simp only[lE,lC,lF]at E G I;have HA:Ae (∀l∈r.gX,AU p fi xs r.a8 l 0):=by
   have:=d.2;rw[mC (show ↑r.gX<=k from oM)]at this
   exact this
  go_wp2;exact lO (v:=Ao #[Am #[iZ 0,sN,sN],false]) (by simp[results,results92,go_sem,E,G,I]) rfl ⟨⟨0,⟨M,0,0⟩,⟨M,0,0⟩,false,rfl,(λh=>by cases h), λ_=>HA.o⟩,(((d.1.ej.setCell oS _).setCell oS _).setCell oS _)⟩
 have aG:(k:Int)<(r.gX:Int):=oM;obtain⟨l,C⟩:∃l,r.gX[k]?=K l:=⟨_,an aq⟩;have t:=H.a7 d.1.ej;obtain⟨gl,ol,s,A,g,j,W,i0,i1,i2,R⟩:=Ir t.ls C;rw[V]at W;subst W;have N:=Av (d5 C R);obtain⟨h,m,P,_,ae⟩:=t.loop (lA C) (y:=⟨g,l.a8,j⟩) R.2;have ao:=Av ae;rw[P]at i0;have HH:=Av P;clear ae C R t P;generalize l.back.length=z at i1 N;go_upto_region 4 with fail
 have S:Ae (XS w (Ac wr (Ak #[h,Z s z A,Z g l.a8 j] 92)) v/\AA (Ac wr (Ak #[h,Z s z A,Z g l.a8 j] 92)) wr #[h,Z s z A,Z g l.a8 j] 92/\Ah wr wr (Ac wr (Ak #[h,Z s z A,Z g l.a8 j] 92))):=⟨d.1.a7 (Aq _ _),AA.new _ _ _,Aq _ _⟩
 refine Ax (λu=>Ae (XS w u v/\AA u wr #[h,Z s z A,Z g l.a8 j] 92/\Ah wr wr u)) S ?_
 rintro U4 B;clear S i0 i1 i2;generalize hX:wr.heap.size=X at B⊢;obtain⟨p0,p1,p2,p3,p4,p5,p6,p7,p8,p9,au,aw,aA,aE,D⟩:=CT B.1.body;obtain⟨l0,l1,l2⟩:=B9 B.2.1;go_wp2_with fail;refine(M8 v h ⟨s,z,A⟩ ⟨g,l.a8,j⟩ p fi F xs l m U4 (ao.a7 (hX▸B.2.2))).mono ?_;rintro e u5 ⟨⟨nn,rfl,aj⟩,O⟩;have f:=Av (d5 (B.1.a7 O) (B.2.1.a7 O));have T:Ae (AU p fi xs r.a8 l nn):=by rw[<-H.eb];exact aj
 clear aj O B p0 p1 p2 p3 p4 p5 p6 p7 p8 p9 au aw aA aE D l0 l1 l2;by_cases Q:nn=0
 . subst Q;go_wp2;go_roundw;case rel=>
    refine⟨k+1,oM,by go_num,f.1, λl' ah=> ?_⟩;rw[List.take_add_one,N.1]at ah;rcases lT.1 ah with q|q
    . exact d.2 l' q
    simp at q;rw[q];exact T
   case measure=>exact oI
 have aF:(nn==0)=false:=by simp[Q]
 obtain⟨l0,l1,l2⟩:=B9 f.2;have E:=f.1.ik.cell 0;have G:=f.1.ik.cell 1;have I:=f.1.ik.cell 2;have f0:=f.1.ik.frozen 0;have f1:=f.1.ik.frozen 1;have f2:=f.1.ik.frozen 2;simp only[lE,lC,lF]at E G I;go_wp2;exact lO (v:=Ao #[Am #[h,Z s z A,Z g l.a8 j],true]) (by simp[results,results92,go_sem,E,G,I]) rfl ⟨⟨(h:Int),⟨s,z,A⟩,⟨g,l.a8,j⟩,true,rfl, λ_=>⟨k,l,nn,N.1,HH,Q,T,d.2⟩, λh=>(by cases h)⟩,(((f.1.ej.setCell oS _).setCell oS _).setCell oS _)⟩
theorem LF(v:B2)(p:MP)(fi:Int)(F:List (MB×J))(xs:List MI)(r:CS)(w:Y)(m:Tu w v p fi F xs r):
 Ai Ap 92 #[Am v.cells] w λe d=>(∃(h:Int) (x y:FA) (b:Bool),e=Al (Ao #[Am #[h,Z x.a x.n x.c,Z y.a y.n y.c],b])/\(b=true->∃l∈r.gX,∃k,k≠0/\AU p fi xs r.a8 l k)/\(b=false->∀l∈r.gX,AU p fi xs r.a8 l 0))/\Ah w w d:=
 (Hq v p fi F xs r w m).mono λe d ⟨⟨h,x,y,b,f,g,i⟩,j⟩=>⟨⟨h,x,y,b,f, λe=>(by obtain⟨k,l,n,q,_,s,t,_⟩:=g e;exact⟨l,lA q,n,s,t⟩),i⟩,j⟩
theorem RX{w a:Y}{o:Nat}{v:J}(d:w.grownBy a (K b))(h:w ⟨g,o,M⟩=K v)(f:g≠b):a ⟨g,o,M⟩=K v:=by have c:=g8 h;unfold World.cell? at h⊢;rw[d.block g c (λe=>f (by cases e;rfl))];exact h
theorem AA.apart{w c:Y}{a:Array J}{t:Aj}(h:AA w b a t)(f:w.grownBy c (K g))(i:b≠g):AA c b a t:=by have d:=h.lt;unfold AA at h⊢;rw[f.block b d (λe=>i (by cases e;rfl))];exact h
theorem RG(b:Nat)(a:Option Addr)(c:Nat)(ks:List Int)(w:Y)(Q:ks.length<=1048576)(hw:∀z∈ks,Dv z)(n:Rd w 1 (Z a ks c) ks (Ad As ks))(v:∀g o,a=K ⟨g,o,M⟩->0<ks.length->g≠b)(h:AP w b 0 (.map [])):
 Ai Ap 110 #[.map (K b),Z a ks c] w λe E=>e=Al (.tuple #[])/\(∃l D,AP E b l D/\∀z:Int,Go.Maps.has D (.int Af z)=decide (z∈ks))/\w.grownBy E (K b):=by
 have H:=Av (d5 hw (d5 n (d5 v h)));clear hw n v h;go_enter func110,ntmps110;go_wp2;go_loopw [8] (λi wr=>∃k:Nat,k<= ↑ks/\i=.int Af k/\Ae (∃D,AP wr b k D/\(∀z:Int,Go.Maps.has D (.int Af z)=decide (z∈ks.take k))/\w.grownBy wr (K b))) (λi _=> ↑ks-(intOf i).toNat)
 case atStart=>exact⟨0,oM,rfl,.map [],H.2.2.2, λz=>by simp;rfl,⟨rfl,rfl,rfl,Nat.le_refl _, λ_ _ _=>rfl⟩⟩
 obtain⟨k,n,rfl,s⟩:=hrel;obtain⟨D,f,B,x⟩:=s.o;have d:=Av (d5 B x);clear s B x;by_cases N:k< ↑ks
 . have O:(k:Int)<(ks:Int):=oM;obtain⟨z,j⟩:∃z,ks[k]?=K z:=⟨_,an N⟩;obtain⟨g,o,u,t⟩:∃g o,a=K ⟨g,o,M⟩/\w ⟨g,o+k,M⟩=K (iZ z):=by
    rcases H.2.1.2 with⟨q,_⟩|⟨g,o,c',m,L⟩
    . omega
    simp only[lB,mB]at m;exact⟨g,o,m.1,L k _ (Di j)⟩
   have m:=RX d.2 t (H.2.2.1 g o u oM);subst u;have P:=H.1 z (lA j);have p:wr.ownsMap Ap 2 (unitElem (H:=Unit)) b k D:=f;have I:=Av j;clear j f t;go_wp2_with (at_mapUpdate;refine wpList_mapUpdate_own _ rfl _ _ _ 158 rfl 2 56 EY underlying158 (unitElem (H:=Unit)) b k D rfl p oX _ _ _ rfl rfl (oD underlying2 P) _ [] unitElem_mk ?_;intro F C A);have G:Ae (∃D,AP F b (k+1) D/\(∀z:Int,Go.Maps.has D (.int Af z)=decide (z∈ks.take (k+1)))/\w.grownBy F (K b)):=by refine⟨_,C, λy=> ?_,d.2.trans A⟩;rw[Er D (nV p),d.1 y,List.take_add_one,I.o,oR];simp
   clear C A p;go_wp2;go_roundw;(case rel=>exact⟨k+1,oM,by go_num,G⟩);exact oI
 have O:¬(k:Int)<(ks:Int):=oM;have r:Ae ((∃l D,AP wr b l D/\∀z:Int,Go.Maps.has D (.int Af z)=decide (z∈ks))/\w.grownBy wr (K b)):=by refine⟨⟨k,D,f, λz=> ?_⟩,d.2⟩;rw[d.1 z,mC (show ↑ks<=k from oM)]
 clear f;go_wp2;go_end0;exact⟨rfl,r.1,r.2⟩
def Ju(v:B2)(c s:J):Array J:=#[Z v.r.a v.r.n v.r.c,Z v.k.a v.k.n v.k.c,Z v.f.a v.f.n v.f.c,Z v.t.a v.t.n v.t.c,Z v.p.a v.p.n v.p.c,v.rs,Z v.l.a v.l.n v.l.c,Z v.c.a v.c.n v.c.c,v.nu,v.co,v.at_,Z v.b.a v.b.n v.b.c,Z v.o.a v.o.n v.o.c,Z v.i.a v.i.n v.i.c,Z v.q.a v.q.n v.q.c,c,s]
structure CD(u:Y)(B CB:Nat)(v:B2)(n gC cC gS cS:Nat)(I:List Nat)(C:List Int):Prop where
 ie:AA u CB (Ju v (sG gC n cC) (sG gS n cS)) 200
 co:Ab u B 2 1 (sG gC n cC) n (Ad As C)
 st:Ab u B 2 1 (sG gS n cS) n (nv I)
 ne:gC≠gS
 lc: ↑C=n
 li: ↑I=n
 cc:∀y∈C,EP y
 ii:∀b∈I,b<n
 bl:B<=CB
section
variable {u u':Y} {B CB:Nat} {v:B2} {n gC cC gS cS:Nat} {I:List Nat} {C:List Int}
theorem CD.a7(h:CD u B CB v n gC cC gS cS I C)(a:Ah u u u'):CD u' B CB v n gC cC gS cS I C:={h with ie:=h.ie.a7 a,co:=Aw h.co a lR,st:=Aw h.st a lR}
theorem CD.kY(h:CD u B CB v n gC cC gS cS I C)(a:c<n):u ⟨gC,c,M⟩=K ↑(cf C c):=by have:=ms h.co c oM;rw[Di (UP (by rw[h.lc];exact a))]at this;exact this
theorem Ze(h:b< ↑I):I[b]?=K (jf I b):=by rw[an h];exact congrArg K (LW (an h)).symm
theorem CD.km(h:CD u B CB v n gC cC gS cS I C)(c:b<n):u ⟨gS,b,M⟩=K ↑(jf I b:Int)/\jf I b<n:=by have a:=Ze (I:=I) (b:=b) (by rw[h.li];exact c);have:=ms h.st b oM;rw[NQ a]at this;exact⟨this,h.ii _ (lA a)⟩
theorem CD.cells(h:CD u B CB v n gC cC gS cS I C):u ⟨CB,11,M⟩=K (Z v.b.a v.b.n v.b.c)/\u ⟨CB,12,M⟩=K (Z v.o.a v.o.n v.o.c)/\u ⟨CB,15,M⟩=K (sG gC n cC)/\u ⟨CB,16,M⟩=K (sG gS n cS):=⟨by rw[h.ie.cell];rfl,by rw[h.ie.cell];rfl,by rw[h.ie.cell];rfl,by rw[h.ie.cell];rfl⟩
end
structure YJ(w:Y)(v:B2)(n:Nat)(E:Nat->List Nat)(R:List Nat)(pl:Nat->Nat):Prop where
 gr:∃gb ob,v.b.a=K ⟨gb,ob,M⟩/\v.b.n=n/\KP w gb ob n E
 eb:∀b,b<n->∀x∈E b,x<n
 sz:∀b,(E b).length<=1024
 od:∃go oo,v.o.a=K ⟨go,oo,M⟩/\v.o.n= ↑R/\∀k y:Nat,R[k]?=K y->w ⟨go,oo+k,M⟩=K ↑(y:Int)
 rb:∀y∈R,y<n
 rl:R.length<=1024
 p1:∀b,b<n->R[pl b]?=K b
 p2:∀(k b:Nat),R[k]?=K b->pl b=k
theorem YJ.a7{w u:Y}{v:B2}{n:Nat}{E:Nat->List Nat}{R:List Nat}{b:Nat->Nat}(h:YJ w v n E R b)(a:Ah w w u):YJ u v n E R b:=by obtain⟨gb,ob,d,e,f⟩:=h.gr;obtain⟨c,m,i,j,l⟩:=h.od;exact{h with gr:=⟨gb,ob,d,e,f.a7 a⟩,od:=⟨c,m,i,j, λk y g=>Au a (l k y g)⟩}
structure RE(w u:Y)(SB h:Nat)(x:FA)(ka:Option Addr)(kc:Nat)(ks:List Int)(n gL:Nat)(L:List Int):Prop where
 set:∃cnt D,AP u SB cnt D/\∀z:Int,Go.Maps.has D (.int Af z)=decide (z∈ks)
 lb:AA u w #[h,Z x.a x.n x.c,Z ka ks kc] 92
 row:Ab u w 2 1 (Z gL n n) n (Ad As L)
 ej:Ah w w u
 lt: ↑w<gL
 ns:SB≠gL
section
variable {w u u':Y} {SB h:Nat} {x:FA} {ka:Option Addr} {kc:Nat} {ks:List Int} {n gL:Nat} {L:List Int}
theorem RE.a7(H:RE w u SB h x ka kc ks n gL L)(a:Ah u.heap.size u u'):RE w u' SB h x ka kc ks n gL L:=by obtain⟨b,D,c,d⟩:=H.set;exact⟨⟨b,D,c.a7 a,d⟩,H.lb.a7 a,Aw H.row a lR,Ar H.ej lR a,H.lt,H.ns⟩
theorem RE.put(H:RE w u SB h x ka kc ks n gL L)(k:Nat)(y:Int):RE w (Aa u ⟨gL,k,M⟩ (.int Af y)) SB h x ka kc ks n gL (L.set k y):=by obtain⟨c,D,e,f⟩:=H.set;obtain⟨b,d⟩:=nC H.row k y;rw[Ht]at b;have:=H.lt;exact⟨⟨c,D,World.ownsMap.kept e d (by simp only[ne_eq,lH];exact H.ns),f⟩,H.lb.other (a:=⟨gL,k,M⟩) oS _,b,H.ej.setCell oS _,H.lt,H.ns⟩
theorem RE.at_(H:RE w u SB h x ka kc ks n gL L)(f: ↑L=n)(d:c<n):u ⟨gL,c,M⟩=K ↑(cf L c)/\u.frozen? ⟨gL,c,M⟩=false:=by have a:=ms H.row c oM;rw[Di (UP (by rw[f];exact d))]at a;obtain⟨_,b,e⟩:=AD H.row;exact⟨a,frozen_of_row u gL c b _ e⟩
end
def ZB(w:Y)(n:Nat)(E:Nat->List Nat)(ks:List Int)(I:List Nat)(C:List Int)(h:Nat)(d:Nat->Nat)(e:Ending)(a:Y):Prop:=∃(gL:Nat) (L:List Int) (small:Bool),e=Al (.tuple #[sG gL n n,small])/\(small=true->(∀c,c<n->a ⟨gL,c,M⟩=K ↑(cf L c))/\∀y∈L,EP y)/\X4 E n (λb=>decide ((b:Int)∈ks)) I C h d L small/\Ah w w a
def UI(xs:List MI)(a:List MB)(b:Nat):Prop:=∃m x,a[b]?=K m/\xs[m.last.toNat]?=K x/\x.op=29
theorem Nd(v:B2)(F:List (MB×J))(xs:List MI)(w:Y)(D:JR w v F xs)(aE:∀z∈F,∃a n c,z.2=Z a n c)(hc:Rd w 4 (Z v.c.a v.c.n v.c.c) xs (Ad MI.cells xs)):
 Ai Ap 126 #[Am v.cells] w λe w'=>∃(a:Option Addr) (c:Nat) (d:List Int),e=Al (Z a d c)/\Rd w' 1 (Z a d c) d (Ad As d)/\(∀z,z∈d↔∃b:Nat,z=(b:Int)/\b< ↑F/\UI xs (F.map Prod.fst) b)/\d.length<=1024/\Ah w w w':=by
 obtain⟨k0,hk,aM,aP,aQ⟩:=mN Br;have H:=Av (d5 D (d5 aE hc));have aS:F.length<=1024:=D.len;have aZ:xs.length<=1024:=D.jT;obtain⟨C,bc,eb⟩:=D.rd.bW;simp only[lB]at eb;have aG:=Av eb.2.1;clear D aE hc eb C bc;obtain⟨C,au⟩:∃C,v.b.a=C:=⟨_,rfl⟩;have ah:=Av au;clear au;have E0:Ae (AA (Ac w (Ak v.cells 164)) w v.cells 164/\Ah w w (Ac w (Ak v.cells 164))):=⟨AA.new _ _ _,Aq _ _⟩
 go_enter func126,ntmps126;go_upto_region 1 with fail
 refine Ax (λu=>Ae (AA u w v.cells 164/\Ah w w u)) E0 ?_
 rintro U B;clear E0;have ae:=B.1.cell 11;simp only[B2.cells]at ae;simp only[aG.o,ah.o]at ae;go_wp2_with fail;clear ae;go_loopw [3,10] (λs i wr=>∃(k:Nat) (d:List Int),k<= ↑F/\i=iZ k/\Ae (Ab wr U 2 1 s d (Ad As d)/\(∀z,z∈d↔∃b:Nat,z=(b:Int)/\b<k/\UI xs (F.map Prod.fst) b)/\ ↑d<=k/\Ah U U wr)) (λ_ i _=> ↑F-(intOf i).toNat)
 case atStart=>exact⟨0,[],oM,rfl,mI _ _ _ _, λz=>⟨λe=>(by cases e), λ⟨b,_,h,_⟩=>absurd h (Nat.not_lt_zero _)⟩,sP,lu _ _⟩
 case round=>
 obtain⟨k,d,aR,rfl,f⟩:=hrel;by_cases aH:k< ↑F
 case neg=>obtain⟨N,O,S⟩:=AF f.1;subst S;go_wp2_with fail;go_ret;refine⟨N,O,d,rfl,Rd.ij f.1, λz=> ?_,by have:=f.2.2.1;omega,Ar B.2 lR f.2.2.2⟩;rw[f.2.1 z];obtain rfl:k=F.length:=oM;exact Iff.rfl
 have aT:(k:Int)<(F:Int):=oM;obtain⟨m,g,o,t,me,nx,T,eg,en,V,W,i2,e1,R,aU,aI,aq⟩:=H.1.at aH;obtain⟨y,nn,A,ao⟩:=H.2.1 _ (lA aq);simp only[]at ao;subst ao;obtain⟨x,I⟩:∃x,xs[me]?=K x:=⟨_,an aI⟩;rcases H.2.2.2 with⟨q0,_⟩|⟨gc,oc,cc,L,aw⟩
 . omega
 simp only[lB]at L;have q:=Rd.elem MI.dr aw me x I 0 _ rfl;rw[lJ]at q;have am:Ae (UI xs (F.map Prod.fst) k↔x.op=29):=⟨λ⟨m',x',l,r,p⟩=>by
  rw[T]at l;cases l
  rw[R,lD,I]at r;cases r
  exact p, λh=>⟨m,x,T,by rw[R,lD];exact I,h⟩⟩
 have E:=Av (Ar B.2 lR f.2.2.2);have Q:=Av (d5 q (d5 L.1 L.2.1));rw[<-E.cell (g8 V)]at V;rw[<-E.cell (g8 W)]at W;rw[<-E.cell (g8 i2)]at i2;obtain rfl:C=K ⟨g,o,M⟩:=by rw[<-ah];exact eg
 obtain⟨N,O,S⟩:=AF f.1;subst S;have aW:(me:Int)<(xs:Int):=oM;clear q L aw T I e1 R aq;go_upto_region 5 with fail
 have P:Ae (AA (Ac wr (Ak #[t,me,Z y nn A] 90)) w v.cells 164/\AA (Ac wr (Ak #[t,me,Z y nn A] 90)) wr #[t,me,Z y nn A] 90/\Ab (Ac wr (Ak #[t,me,Z y nn A] 90)) U 2 1 (Z N d O) d (Ad As d)/\Ah U U (Ac wr (Ak #[t,me,Z y nn A] 90))):=⟨(B.1.a7 f.2.2.2).a7 (Aq _ _),AA.new _ _ _,f.1.alloc _,f.2.2.2.alloc f.2.2.2.size _⟩
 generalize wr.heap.size=X at P⊢;refine Ax (λu=>Ae (AA u w v.cells 164/\AA u X #[t,me,Z y nn A] 90/\Ab u U 2 1 (Z N d O) d (Ad As d)/\Ah U U u)) P ?_
 rintro U5 j;clear P V W i2 E;have b1:=j.2.1.cell 1;simp only[lE,lC,lF]at b1;have p7:=j.1.cell 7;simp only[B2.cells]at p7;simp only[Q.2.1,Q.2.2]at p7;have q:=Q.1;rw[<-(Ar B.2 lR j.2.2.2).cell (g8 q)]at q;by_cases G:x.op=29
 . rw [G]at q;have aY:=f.2.2.1;go_wp2_with (at_builtin;refine wpList_append_own _ rfl _ _ 29 rfl U 2 k0 (iZ 0) 1 8 underlying29 hk aM aP aQ rfl dC _ d (Ad As d) rfl (j.2.2.1.alloc _) U5 1 1 [k] rfl rfl (Go.cell_one_new _ _ _) (λu hu=>by simp at hu;subst hu;rfl) oX oM (by have:=j.2.2.2.size;simp;omega) ?_;intro v' w3 aF aA aJ);have aj:Ae (Ab w3 U 2 1 v' (d++[(k:Int)]).length (Ad As (d++[(k:Int)]))/\Ah U U w3):=by have o1:=j.2.2.1;refine⟨?_,(j.2.2.2.alloc j.2.2.2.size _).grown aA (by have:=j.2.2.2.size;simp;omega) (λi hi=>(o1.lt i hi).1)⟩;rw[mH,lG];exact aF
   clear aF aA aJ;go_roundw;case rel=>
    refine⟨k+1,d++[(k:Int)],oM,by go_num,aj.1, λz=> ?_,by rw[lG];simp;omega,aj.2⟩;rw[lT,f.2.1 z];simp only[lw,mK,nJ];constructor
    . rintro(⟨b,l,r,p⟩|rfl)
      . exact⟨b,l,oM,p⟩
      exact⟨k,rfl,oM,am.2 G⟩
    rintro⟨b,l,r,p⟩;by_cases e:b=k
    . exact .inr (by rw[l,e])
    exact .inl ⟨b,l,oM,p⟩
   case measure=>exact oI
 have aX:(x.op==29)=false:=by simpa using G
 go_wp2_with fail;go_roundw;case rel=>
  refine⟨k+1,d,oM,by go_num,j.2.2.1, λz=> ?_,by have:=f.2.2.1;omega,j.2.2.2⟩;rw[f.2.1 z];constructor
  . rintro⟨b,l,r,p⟩;exact⟨b,l,oM,p⟩
  rintro⟨b,l,r,p⟩;refine⟨b,l,?_,p⟩;by_cases e:b=k
  . subst e;exact absurd (am.1 p) G
  omega
 case measure=>exact oI
end Go.Proofs.YtadcneiiokbofaaGreat
