import Derived.Test.YthjbicggfnnonaaGreatDoorCw25
namespace Go.Proofs.YthjbicggfnnonaaGreatDoor
open Go.ChangeShapes Go.WideShapes Go.ChangeAt Go.RowKit
set_option linter.unusedVariables false
set_option maxHeartbeats 4000000
set_option maxRecDepth 100000
variable {q base g n i:Nat}{w u:World}{v:VP}{F:List (List Int×Value)}{cs:List MC}{G:List (MF×VF)}{ts:List MT}{s:CP}{pv lv:Value}{x m:MP}{L0:Int}
theorem B6{z:Int}(a:-9223372036854775808<=z:=by omega)(h1:z<=9223372036854775807:=by omega):Cr z:=by simp[Cr,Lit.wf,IntKind.min,IntKind.max,IntKind.signed,IntKind.bits];omega
def VH(s:CP)(p m:Int)(k:Nat)(u:World)(e:Ending)(b:World):Prop:=∃(a:Option Addr) (c:Nat) (xs:List Int),e=.returned (.slice a xs.length c)/\b.ownsRow u.heap.size 2 1 (.slice a xs.length c) xs.length (xs.flatMap Ad)/\xs.length<=k/\(∀z∈xs,Cr z)/\Dr s p m u b
theorem FZ(u:World)(s:CP)(p:Int)(f:Dy u s.S s.a s.len s.cap p)(hp:p+10<=1000000000000):
 Calls Tryz.prog 86 #[.pointer (some ⟨s.S,0,none⟩)] u (VH s p 10 15 u):=by
 obtain⟨aA,hi,am,ao,aq⟩:=kS Co;have y:=Ag f.lt;have v:Hid ((u.alloc (.cells #[] 2)).ownsRow u.heap.size 2 1 (.slice (some ⟨u.heap.size,0,none⟩) 0 0) 0 []/\Dy (u.alloc (.cells #[] 2)) s.S s.a s.len s.cap p/\AG s.S u (u.alloc (.cells #[] 2))):=⟨⟨rfl,.inr ⟨u.heap.size,0,#[],rfl,Nat.le_refl _,lq _ _,Nat.le_refl _,lr _,rfl,sP⟩⟩,f.alloc _,.alloc _ _ _⟩
 have aL:=f.low;clear f;go_enter Tryz.func86,Tryz.ntmps86;go_wp2_with fail;refine(Al v.o.2.1).mono ?_;rintro e G ⟨r1,aD,aE,rfl,f,g⟩;have I:Hid (∃(a:Option Addr) (c:Nat) (xs:List Int),(.slice (some ⟨u.heap.size,0,none⟩) 0 0)=Value.slice a xs.length c/\xs.length<=0/\G.ownsRow u.heap.size 2 1 (.slice a xs.length c) xs.length (xs.flatMap Ad)/\(∀z∈xs,Cr z)/\Dy G s.S s.a s.len s.cap (p+1)/\AG s.S u G):=⟨_,_,[],rfl,sP,BJ v.o.1 g.grow (fun b w e=>by have:=(v.o.1.lt b w).1;have:=y.o;simp only[i4]at e;omega),(fun z C=>by cases C),f,v.o.2.2.trans g⟩
 clear f g v;go_wp2_with fail;go_loopw [3,4,5,6] (fun V i _ _ wr=>∃(j:Nat) (a:Option Addr) (c:Nat) (xs:List Int) (E:Int),V=.slice a xs.length c/\i=.int .i64 (j:Int)/\j<=3/\xs.length<=5*(3-j)/\p<=E/\E<=p+1+2*(3-(j:Int))/\Hid (wr.ownsRow u.heap.size 2 1 (.slice a xs.length c) xs.length (xs.flatMap Ad)/\(∀z∈xs,Cr z)/\Dy wr s.S s.a s.len s.cap E/\AG s.S u wr)) (fun _ i _ _ _=>(intOf i).toNat)
 case atStart=>obtain⟨a,c,xs,W,e2,X,Y,Z,e6⟩:=I.o;exact⟨r1.toNat,a,c,xs,p+1,W,by show _=_;congr 1;omega,oM,oM,oM,oM,X,Y,Z,e6⟩
 case round=>
  clear I;obtain⟨j,a,c,xs,x,rfl,rfl,hj,B,g1,g2,h⟩:=hrel;by_cases a8:j=0;case pos=>subst a8;go_wp2_with fail;go_ret;exact⟨a,c,xs,rfl,h.o.1,oM,h.o.2.1,x,oM,oM,h.o.2.2.1,h.o.2.2.2⟩
  have aJ:(j:Int)>0:=oM;go_wp2_with fail;refine(Al h.o.2.2.1).mono ?_;rintro e u3 ⟨r3,aF,aG,rfl,f,g⟩;have n:=Ag (f7 (BJ h.o.1 g.grow (fun b w e=>by have:=(h.o.1.lt b w).1;have:=y.o;simp only[i4]at e;omega)) (f7 h.o.2.1 (f7 f (h.o.2.2.2.trans g))));clear f g h;go_wp2_with fail;refine(Al n.o.2.2.1).mono ?_;rintro e u4 ⟨r4,aH,aI,rfl,f,g⟩;have J:=Ag (f7 (BJ n.o.1 g.grow (fun b w e=>by have:=(n.o.1.lt b w).1;have:=y.o;simp only[i4]at e;omega)) (f7 n.o.2.1 (f7 f (n.o.2.2.2.trans g))));clear f g n;obtain⟨t,ht⟩:∃t,1+r3=t:=⟨_,rfl⟩;have U:Hid (Cr t):=B6 oM oM;have aj:=B;have K:=Ag B;clear B aj;go_wp2_with fail;go_loopw [3,6] (fun V i wr=>∃(q:Nat) (a:Option Addr) (c:Nat) (d:List Int),V=.slice a d.length c/\i=.int .i64 (q:Int)/\q<=5/\d.length<=xs.length+(5-q)/\Hid (wr.ownsRow u.heap.size 2 1 (.slice a d.length c) d.length (d.flatMap Ad)/\(∀z∈d,Cr z)/\Dy wr s.S s.a s.len s.cap (x+1+1)/\AG s.S u wr)) (fun _ i _=>(intOf i).toNat)
  case atStart=>exact⟨(1+r4).toNat,a,c,xs,rfl,by show _=_;congr 1;omega,oM,oM,J⟩
  clear J;obtain⟨q,a,c,d,rfl,rfl,hq,aw,r⟩:=hrel;by_cases ah:q=0;case pos=>subst ah;obtain⟨D,rfl⟩:∃D,j=D+1:=⟨j-1,oM⟩;go_wp2_with fail;go_roundw;(case rel=>exact⟨D,a,c,d,x+1+1,rfl,by go_num,oM,by have:=K.o;omega,oM,oM,r⟩);simp[intOf]
  have aM:(q:Int)>0:=oM;have au:d.length<=100:=by have:=K.o;omega
  have l:Hid ((wr.alloc (.cells #[.int .i64 t] 2)).ownsRow u.heap.size 2 1 (.slice a d.length c) d.length (d.flatMap Ad)/\(∀z∈d,Cr z)/\Dy (wr.alloc (.cells #[.int .i64 t] 2)) s.S s.a s.len s.cap (x+1+1)/\AG s.S u (wr.alloc (.cells #[.int .i64 t] 2))):=⟨Ai r.o.1 (Aa _ _) lR,r.o.2.1,r.o.2.2.1.alloc _,r.o.2.2.2.trans (.alloc _ _ _)⟩
  clear r;generalize O:d.length=m at aw au l⊢;have T:Hid (d.length=m):=O;clear O;go_wp2_with (first|(at_builtin;refine wpList_append_lies _ rfl _ _ 58 rfl u.heap.size 2 aA (.int .i64 0) 1 8 Tryz.underlying58 hi am ao aq rfl dC (.slice a m c) m (d.flatMap Ad) rfl l.o.1 ⟨wr.heap.size,0,none⟩ 1 1 [.int .i64 t] rfl rfl (Ci wr _ _) (Dz _) oM oX oM l.o.2.2.2.size _ rfl ?_;intro M L H Q A a6 ae;have R:Hid (H.ownsRow u.heap.size 2 1 (.slice (some ⟨M,0,none⟩) (m+1) L) (m+1) ((d++[t]).flatMap Ad)/\(∀z∈d++[t],Cr z)/\Dy H s.S s.a s.len s.cap (x+1+1)/\AG s.S u H):=⟨by rw[<-Ja];exact Q,(fun z C=>by rcases kB.1 C with e|e;exact l.o.2.1 z e;rw[kM.1 e];exact U.o),l.o.2.2.1.aa (fun k N=>A.block k (by have:=l.o.2.2.1.lt;omega) (fun e=>by have:=(l.o.1.lt k e.symm).1;have:=y.o;omega)),l.o.2.2.2.grown A (fun k N=>(l.o.1.lt k N).1)⟩;clear Q A a6 ae)|go_in)
  have P:(d++[t]).length=m+1:=by rw[f6,T.o];rfl
  obtain⟨F,rfl⟩:∃F,q=F+1:=⟨q-1,oM⟩;clear l;go_roundw;case rel=>exact⟨F,some ⟨M,0,none⟩,L,d++[t],by rw[P],by go_num,oM,oM,by rw[P];exact R.o⟩
  simp[intOf]
section
variable {w u u':World} {s:CP} {p:Int} {v:VP} {F:List (List Int×Value)} {G:List (MF×VF)} {cs:List MC} {ts:List MT} {D:List Ax}
theorem Bs.fn(h:Bs w u s p (Ab v F cs G ts D)){y:MF×VF}(t:G[q]?=some y):∃gf cf d i al cl b g,v.f=.slice (some ⟨gf,0,none⟩) G.length cf/\y.2=⟨.slice d y.1.params.length i,.slice al y.1.locals.length cl,.slice b y.1.code.length g⟩/\(u.cell? ⟨gf,q*4,none⟩=some (.slice d y.1.params.length i)/\u.cell? ⟨gf,q*4+1,none⟩=some (.int .i64 y.1.result)/\u.cell? ⟨gf,q*4+2,none⟩=some (.slice al y.1.locals.length cl)/\u.cell? ⟨gf,q*4+3,none⟩=some (.slice b y.1.code.length g))/\u.ownsRow w.heap.size 2 1 (.slice d y.1.params.length i) y.1.params.length (y.1.params.flatMap Ad)/\u.ownsRow w.heap.size 2 1 (.slice al y.1.locals.length cl) y.1.locals.length (y.1.locals.flatMap Ad)/\u.ownsRow w.heap.size 96 4 (.slice b y.1.code.length g) y.1.code.length (y.1.code.flatMap MI.cells):=by
 have N:=(d7.1 t).1;have m:∀r∈Bl y,r∈Ab v F cs G ts D:=fun r I=>by have:r∈AV G:=lP.2 ⟨y,d9 t,I⟩;simp[Ab,this]
 have x:=h.sep.own _ (m (Ay y.2.p y.1.params) (by simp[Bl]));have z:=h.sep.own _ (m (Ay y.2.l y.1.locals) (by simp[Bl]));have A:=h.sep.own _ (m (A3 y.2.c y.1.code) (by simp[Bl]));obtain⟨f,L,K,J⟩:=y;obtain⟨d,i,B⟩:∃a c,L=.slice a f.params.length c:=AO x;obtain⟨al,cl,C⟩:∃a c,K=.slice a f.locals.length c:=AO z;obtain⟨b,g,E⟩:∃a c,J=.slice a f.code.length c:=AO A;subst B C E;have k:=h.gK.2.2.2.1;rcases B9 k with⟨e,M⟩|⟨gf,cf,e⟩
 . omega
 rw[e]at k;have c0:=kW k (q*4) oM;have c1:=kW k (q*4+1) oM;have c2:=kW k (q*4+2) oM;have c3:=kW k (q*4+3) oM;have n:∀j,j<4->(G.flatMap AJ)[q*4+j]?=(AJ (f,⟨.slice d f.params.length i,.slice al f.locals.length cl,.slice b f.code.length g⟩))[j]?:=fun j H=>CQ AJ 4 Aj G q j _ t H
 rw[show q*4=q*4+0 from rfl,n 0 oM]at c0;rw[n 1 oM]at c1;rw[n 2 oM]at c2;rw[n 3 oM]at c3;exact⟨gf,cf,d,i,al,cl,b,g,e,rfl,⟨c0,c1,c2,c3⟩,x,z,A⟩
theorem Bs.iX(h:Bs w u s p (Ab v F cs G ts D)){y:List Int×Value}(b:F[q]?=some y):∃gr cr a c,v.r=.slice (some ⟨gr,0,none⟩) F.length cr/\y.2=.slice a y.1.length c/\u.cell? ⟨gr,q,none⟩=some (.slice a y.1.length c)/\u.ownsRow w.heap.size 2 1 (.slice a y.1.length c) y.1.length (y.1.flatMap Ad):=by
 have x:=(d7.1 b).1;have m:Ay y.2 y.1∈Ab v F cs G ts D:=by have:Ay y.2 y.1∈A5 F:=lL.2 ⟨y,d9 b,rfl⟩;simp[Ab,this]
 have i:=h.sep.own _ m;obtain⟨f,n⟩:=y;obtain⟨j,k,l⟩:∃a c,n=.slice a f.length c:=AO i;subst l;have d:=h.gK.2.1;rcases B9 d with⟨e,t⟩|⟨gf,cf,e⟩
 . omega
 rw[e]at d;have c0:=kW d q oM;have g:=CQ Bi 1 Bc F q 0 _ b oM;rw[kn,kD]at g;rw[g]at c0;exact⟨gf,cf,j,k,e,rfl,c0,i⟩
end
section
variable {w u u':World} {s:CP} {k:GK} {p left lv:Int} {sl:Nat} {D:List Ax}
theorem GS.iX(h:GS w u s k p left lv sl D)(b:DH k)(n:q<3):∃(gr cr:Nat) (xs:List Int) (a:Option Addr) (c:Nat),u.cell? ⟨k.Gb,1,none⟩=some (.pointer (some ⟨k.P,0,none⟩))/\u.cell? ⟨k.P,0,none⟩=some (.slice (some ⟨gr,0,none⟩) 3 cr)/\u.cell? ⟨gr,q,none⟩=some (.slice a xs.length c)/\Tk s u (.slice a xs.length c) xs/\xs.length<=100:=by obtain⟨v,r,g,h1,h2⟩:=h.ex;have l:=b.f3;obtain⟨y,e⟩:∃y,k.F[q]?=some y:=⟨_,an oM⟩;obtain⟨gr,cr,a,c,f,m,i,j⟩:=h1.bl.iX e;have d:=h1.gI.1;rw[f,l]at d;exact⟨gr,cr,y.1,a,c,h1.cells.2.1,d,i,Tk.own j h1.bl.aC.lo,b.fr y (d9 e)⟩
end
theorem Iy(w u:World)(s:CP)(k:GK)(p left lv:Int)(sl:Nat)(D:List Ax)(t:Int)(Q:DH k)(h:GS w u s k p left lv sl D)(hp:p+1<=1000000000000):
 Calls Tryz.prog 114 #[.pointer (some ⟨k.Gb,0,none⟩),.int .i64 t] u (PW s p k.G.length u):=by
 obtain⟨aG,hi,aD,aE,aF⟩:=kS Co;obtain⟨v,vc,g,h1,h2⟩:=h.ex;obtain⟨⟨a1,c1,a2,c2,Y,c3,a4,c4,B⟩,_⟩:=h1.bl.gK;have aI:=Q.fi;have aJ:=Q.gl;obtain⟨_,q1,q2,_,_,_⟩:=h1.cells;have q0:=h1.cells.1;obtain⟨_,_,J,_⟩:=h1.gI;rw[B]at J;simp only[]at J;generalize hn:k.G.length=n at*;have H:Hid (Dy u s.S s.a s.len s.cap p/\∀j,j<n->∃gf r,Y=some ⟨gf,0,none⟩/\u.cell? ⟨gf,j*4+1,none⟩=some (.int .i64 r)):=⟨h1.bl.aC.src,fun j hj=>by obtain⟨y,hy⟩:∃y,k.G[j]?=some y:=⟨_,an oM⟩;obtain⟨gf,cf,ap,cp,al,cl,ac,cc,M,e2,⟨f0,f1,f2,f3⟩,o1,o2,o3⟩:=h1.bl.fn hy;rw[B]at M;simp only[ip]at M;exact⟨gf,_,M.1,f1⟩⟩
 have HU:=Ag H.o.1.lt;have U:Hid (∀W,Below u.heap.size u W->W.cell? ⟨k.Gb,0,none⟩=some (.pointer (some ⟨s.S,0,none⟩))/\W.cell? ⟨k.Gb,1,none⟩=some (.pointer (some ⟨k.P,0,none⟩))/\W.cell? ⟨k.Gb,2,none⟩=some (.int .i64 (k.fi:Int))/\W.cell? ⟨k.P,2,none⟩=some (.slice Y n c3)):=fun W I=>⟨Af I q0,Af I q1,Af I q2,Af I J⟩
 clear h1 h2 h Q q0 q1 q2 J B hn;go_enter Tryz.func114,Tryz.ntmps114;have E:Hid ((u.alloc (.cells #[] 2)).ownsRow u.heap.size 2 1 (.slice (some ⟨u.heap.size,0,none⟩) 0 0) 0 []/\Below u.heap.size u (u.alloc (.cells #[] 2))):=⟨⟨rfl,.inr ⟨u.heap.size,0,#[],rfl,Nat.le_refl _,lq _ _,Nat.le_refl _,lr _,rfl,sP⟩⟩,Aa _ _⟩
 obtain⟨_,_,L,_⟩:=U.o _ E.o.2;go_wp2_with fail;clear L;go_loopw [5,6] (fun V i wr=>∃(j:Nat) (l:Option Addr) (d:List Int) (cV:Nat),j<=n/\V=.slice l d.length cV/\i=.int .i64 j/\d.length<=j/\Hid (wr.ownsRow u.heap.size 2 1 (.slice l d.length cV) d.length (d.flatMap Ad)/\Below u.heap.size u wr/\∀z∈d,0<=z/\z<n)) (fun _ i _=>n-(intOf i).toNat)
 case atStart=>exact⟨k.fi+1,_,[],_,oM,rfl,by go_num,sP,E.o.1,E.o.2,fun z C=>by cases C⟩
 clear E;obtain⟨j,l,d,cV,hj,rfl,rfl,ao,f⟩:=hrel;obtain⟨d0,d1,L,d3⟩:=U.o _ f.o.2.1;by_cases h1:j<n;case pos=>
  have au:(j:Int)<(n:Int):=oM;obtain⟨gf,x,ea,aq⟩:=H.o.2 j h1;subst ea;have kz:=Af f.o.2.1 aq;clear aq;cases hxt:(x==t)
  case false=>go_wp2_with fail;go_roundw;(case rel=>exact⟨j+1,l,d,cV,oM,rfl,by go_num,oM,f⟩);exact oI
  case true=>
   have HZ:=Ag f.o.2.2;have A:Hid ((wr.alloc (.cells #[.int .i64 (j:Int)] 2)).ownsRow u.heap.size 2 1 (.slice l d.length cV) d.length (d.flatMap Ad)/\Below u.heap.size u (wr.alloc (.cells #[.int .i64 (j:Int)] 2))):=⟨Ai f.o.1 (Aa _ _) lR,Ac f.o.2.1 lR (Aa _ _)⟩
   clear f;generalize hm:d.length=m at ao A⊢;have HM:=Ag hm;clear hm;go_wp2_with (first|(at_builtin;refine wpList_append_lies _ rfl _ _ 58 rfl u.heap.size 2 aG (.int .i64 0) 1 8 Tryz.underlying58 hi aD aE aF rfl dC (.slice l m cV) m (d.flatMap Ad) rfl A.o.1 ⟨wr.heap.size,0,none⟩ 1 1 [.int .i64 (j:Int)] rfl rfl (Ci wr _ _) (Dz _) oM oX oM A.o.2.size _ rfl ?_;intro g5 Z w5 ah a6 aw aA;have T:Hid (w5.ownsRow u.heap.size 2 1 (.slice (some ⟨g5,0,none⟩) (m+1) Z) (m+1) ((d++[(j:Int)]).flatMap Ad)/\Below u.heap.size u w5):=⟨by rw[<-Ja];exact ah,A.o.2.grown a6 A.o.2.size (fun q hq=>(A.o.1.lt q hq).1)⟩;clear ah a6 aw aA)|go_in)
   clear A kz d0 d1 L d3;(have ae:(d++[(j:Int)]).length=m+1:=by rw[f6,HM.o];rfl);go_roundw;case rel=>exact⟨j+1,some ⟨g5,0,none⟩,d++[(j:Int)],Z,oM,by rw[ae],by go_num,oM,by rw[ae];exact T.o.1,T.o.2,fun z C=>by
    rcases kB.1 C with e|e
    . exact HZ.o z e
    rw[kM.1 e];omega⟩
   case measure=>exact oI
 case neg=>
  have au:¬(j:Int)<(n:Int):=oM;by_cases a8:d.length=0
  . have K:Hid (Dr s p 1 u wr):=⟨p,oM,oM,H.o.1.below f.o.2.1,.gz f.o.2.1⟩;clear f;generalize d.length=m at a8 ao⊢;subst a8;go_wp2_with fail;go_ret;exact⟨-1,rfl,oM,oM,K.o⟩
  have aL:((d.length:Int)==0)=false:=by rw[mV];omega
  have X:=Ag (H.o.1.below f.o.2.1);go_wp2_with fail;refine(Al X.o hp (n:=(d.length:Int)) oM oM).mono ?_;rintro e u2 ⟨r,h0,aH,rfl,am,O⟩;obtain⟨R,rfl⟩:=i7 h0;have aj:R<d.length:=oM;have N:u2.ownsRow u.heap.size 2 1 (.slice l d.length cV) d.length (d.flatMap Ad):=BJ f.o.1 O.grow (fun b hb e=>by have:=(f.o.1.lt b hb).1;have:=HU.o;simp only[i4]at e;omega);obtain⟨F,B⟩:∃F,l=some ⟨F,0,none⟩:=by
   rcases B9 N with⟨e,h0⟩|⟨F,c,e⟩
   . omega
   simp only[ip]at e;exact⟨F,e.1⟩
  subst B;have c0:=kW N R oM;rw[FN (an aj)]at c0;have C:=f.o.2.2 _ (ku aj);have K:Hid (Dr s p 1 u u2):=⟨p+1,oM,oM,am,(AG.gz f.o.2.1).trans O⟩;clear am O N f X;generalize d[R]=z at c0 C;go_wp2_with fail;go_ret;exact⟨z,rfl,oM,oM,K.o⟩
theorem CJ.j9{B:List Ax}(h:CJ w base (Ab v F cs G ts B)):EZ w base v ⟨F.map Prod.fst,cs,G.map Prod.fst,ts⟩:=by
 have h1:=h.own (Bf v.r F) (by simp[Ab]);have b:=h.own (AP v.f G) (by simp[Ab]);refine⟨⟨F,rfl,by simpa[Bf,Ax.own]using h1,fun x a=>h.own (Ay x.2 x.1) ?_⟩,h.own (Cd v.k cs) (by simp[Ab]),⟨G,rfl,by simpa[AP,Ax.own]using b,fun x a=>⟨h.own (Ay x.2.p x.1.params) ?_,h.own (Ay x.2.l x.1.locals) ?_,h.own (A3 x.2.c x.1.code) ?_⟩⟩,h.own (BS v.t ts) (by simp[Ab])⟩
 . have:Ay x.2 x.1∈A5 F:=lL.2 ⟨x,a,rfl⟩;simp[Ab,this]
 all_goals
  have e:∀r∈Bl x,r∈AV G:=fun r d=>lP.2 ⟨x,a,d⟩
 . have:=e (Ay x.2.p x.1.params) (by simp[Bl]);simp[Ab,this]
 . have:=e (Ay x.2.l x.1.locals) (by simp[Bl]);simp[Ab,this]
 have:=e (A3 x.2.c x.1.code) (by simp[Bl]);simp[Ab,this]
abbrev vN:VP:=⟨sN,sN,sN,sN⟩
section
variable {w u u':World} {s:CP} {p p':Int} {Ls:List Ax} {v:VP} {F:List (List Int×Value)} {cs:List MC} {G:List (MF×VF)} {ts:List MT} {P:Nat} {D E:List Ax}
theorem Bs.iz(h:Bs w u s p Ls)(c:Dy u' s.S s.a s.len s.cap p')(b:AG s.S u u'){r:Ax}(e:r.own u' u.heap.size):Bs w u' s p' (Ls++[r]):=⟨(h.draw c b).sep.snoc (N:=u.heap.size) (fun x f g d=>(h.sep.lt x f g d).2) e h.size,(h.draw c b).aC⟩
theorem Bs.four(h:Bs w u s p Ls)(a:gb P v∈Ls):(u.cell? ⟨P,0,none⟩=some v.r/\u.cell? ⟨P,1,none⟩=some v.k/\u.cell? ⟨P,2,none⟩=some v.f/\u.cell? ⟨P,3,none⟩=some v.t)/\(u.frozen? ⟨P,0,none⟩=false/\u.frozen? ⟨P,1,none⟩=false/\u.frozen? ⟨P,2,none⟩=false/\u.frozen? ⟨P,3,none⟩=false):=⟨⟨h.cell a 0 oM,h.cell a 1 oM,h.cell a 2 oM,h.cell a 3 oM⟩,h.frozen a 0,h.frozen a 1,h.frozen a 2,h.frozen a 3⟩
theorem Wf(x:World)(a b c:Value):(⟨58,1,sG x.heap.size 3 3,3,[a,b,c]⟩:Ax).own (x.alloc (.cells #[a,b,c] 58)) x.heap.size:=ko (base:=x.heap.size) (e:=58) (size:=1) x #[a,b,c] 3 lR oX rfl
theorem Bs.aB{v1 v2 v3:Value}{x1 x2 x3:List Int}(h:Bs w u s p (E++[Ay v1 x1,Ay v2 x2,Ay v3 x3])):Bs w ((u.alloc (.cells #[v1,v2,v3] 58)).alloc (.cells #[sG u.heap.size 3 3,sN,sN,sN] 29)) s p
 (Ab ⟨sG u.heap.size 3 3,sN,sN,sN⟩ [(x1,v1),(x2,v2),(x3,v3)] [] [] [] (gb (u.heap.size+1) ⟨sG u.heap.size 3 3,sN,sN,sN⟩::E)):=by
 have e:=h.row (Aa _ _) (Wf u v1 v2 v3);have f:=e.box 29 4 [sG u.heap.size 3 3,sN,sN,sN] rfl;have a:=((f.nil 63 2).nil 68 4).nil 72 4;simp only[ln,kT,kL,kf]at a;refine a.perm ?_;refine(mH (l₁:=E)).trans ?_;simp only[Ab,A5,Bf,Bi,Cd,AP,AV,BS,List.map,kG,lG,kL,kf,kY,kp,nD];generalize Ay v1 x1=b;generalize Ay v2 x2=c;generalize Ay v3 x3=d;refine List.Perm.trans ?_ ((mH (l₁:=[b,c,d]) (l₂:=[_])).append_right _);simp only[kL,kf];refine .cons _ (.cons _ (.cons _ (.cons _ ?_)));exact mH (l₁:=[_]) (l₂:=[_,_,_])|>.append_right E
theorem Bs.jJ{vk:Value}(c:vk.ownBlock=none)(h:Bs w u s p (Ab {v with k:=vk} F [] G ts D))(V:Value)(d:u'.ownsRow w.heap.size 63 2 V cs.length (cs.flatMap MC.cells))(b:u.grownBy u' none)(a:V.ownBlock=some u.heap.size):Bs w u' s p (Ab {v with k:=V} F cs G ts D):=by have h1:=Bs.en (A:=Bf v.r F::A5 F) (C:=AP v.f G::AV G++(BS v.t ts::D)) (r:=Cd vk []) h (Cd V cs) d (by rw[show(Cd vk []).v.ownBlock=vk.ownBlock from rfl,c];exact b) (.inr a);exact h1
end
def NK(B:Nat)(pv lv:Value)(res:Int):Ax:=AH B 68 4 [pv,iZ res,lv,sN]
structure Gq(w u:World)(s:CP)(p:Int)(L:List Ax)(B:Nat)(pv lv:Value)(ps ls:List Int)(res:Int):Prop where
 bl:Bs w u s p (L++[Ay pv ps,Ay lv ls,NK B pv lv res])
section
variable {w u u':World} {s:CP} {p p':Int} {L:List Ax} {B:Nat} {pv lv:Value} {ps ls:List Int} {res:Int}
theorem Gq.aa(h:Gq w u s p L B pv lv ps ls res)(a:Below u.heap.size u u'):Gq w u' s p L B pv lv ps ls res:=⟨h.bl.aa a⟩
theorem Gq.draw(h:Gq w u s p L B pv lv ps ls res)(c:Dy u' s.S s.a s.len s.cap p')(b:AG s.S u u'):Gq w u' s p' L B pv lv ps ls res:=⟨h.bl.draw c b⟩
theorem Gq.cells(h:Gq w u s p L B pv lv ps ls res):(u.cell? ⟨B,0,none⟩=some pv/\u.cell? ⟨B,1,none⟩=some (iZ res)/\u.cell? ⟨B,2,none⟩=some lv/\u.cell? ⟨B,3,none⟩=some sN)/\∀i,u.frozen? ⟨B,i,none⟩=false:=
 have m:NK B pv lv res∈L++[Ay pv ps,Ay lv ls,NK B pv lv res]:=sP
 ⟨⟨h.bl.cell m 0 oM,h.bl.cell m 1 oM,h.bl.cell m 2 oM,h.bl.cell m 3 oM⟩,fun i=>h.bl.frozen m i⟩
theorem Gq.rows(h:Gq w u s p L B pv lv ps ls res):u.ownsRow w.heap.size 2 1 pv ps.length (ps.flatMap Ad)/\u.ownsRow w.heap.size 2 1 lv ls.length (ls.flatMap Ad):=⟨h.bl.sep.own (Ay pv ps) sP,h.bl.sep.own (Ay lv ls) sP⟩
theorem Gq.iU(h:Gq w u s p L B pv lv ps ls res)(z:Int)(V:Value)(d:u'.ownsRow w.heap.size 2 1 V (ps.length+1) (ps.flatMap Ad++[iZ z]))(c:u.grownBy u' pv.ownBlock)(b:V.ownBlock=pv.ownBlock\/V.ownBlock=some u.heap.size):Gq w (u'.setCell ⟨B,0,none⟩ V) s p L B V lv (ps++[z]) ls res/\u'.cell? ⟨B,0,none⟩=some pv/\u'.frozen? ⟨B,0,none⟩=false:=by
 have h1:=Bs.en (A:=L) (C:=[Ay lv ls,NK B pv lv res]) (r:=Ay pv ps) h.bl (Ay V (ps++[z])) (by simpa[Ax.own,Ay,Ad]using d) c b;have h2:Bs w u' s p ((L++[Ay V (ps++[z]),Ay lv ls])++NK B pv lv res::[]):=by simpa using h1
 have a:=h2.set 0 oM V;exact⟨⟨by simpa[NK]using a⟩,h1.cell (show NK B pv lv res∈_ from sP) 0 oM,h1.frozen (show NK B pv lv res∈_ from sP) 0⟩
theorem Gq.iu(h:Gq w u s p L B pv lv ps ls res)(z:Int)(V:Value)(e:u'.ownsRow w.heap.size 2 1 V (ls.length+1) (ls.flatMap Ad++[iZ z]))(d:u.grownBy u' lv.ownBlock)(c:V.ownBlock=lv.ownBlock\/V.ownBlock=some u.heap.size):Gq w (u'.setCell ⟨B,2,none⟩ V) s p L B pv V ps (ls++[z]) res/\u'.cell? ⟨B,2,none⟩=some lv/\u'.frozen? ⟨B,2,none⟩=false:=by
 have a:Bs w u s p ((L++[Ay pv ps])++Ay lv ls::[NK B pv lv res]):=by simpa using h.bl
 have h1:=Bs.en (A:=L++[Ay pv ps]) (C:=[NK B pv lv res]) (r:=Ay lv ls) a (Ay V (ls++[z])) (by simpa[Ax.own,Ay,Ad]using e) d c;have h2:Bs w u' s p ((L++[Ay pv ps,Ay V (ls++[z])])++NK B pv lv res::[]):=by simpa using h1
 have b:=h2.set 2 oM V;exact⟨⟨by simpa[NK]using b⟩,h2.cell (show NK B pv lv res∈_ from sP) 2 oM,h2.frozen (show NK B pv lv res∈_ from sP) 2⟩
theorem Gq.jC(h:Gq w u s p L B pv lv ps ls res)(z:Int):Gq w (u.setCell ⟨B,1,none⟩ (iZ z)) s p L B pv lv ps ls z:=by
 have h2:Bs w u s p ((L++[Ay pv ps,Ay lv ls])++NK B pv lv res::[]):=by simpa using h.bl
 have a:=h2.set 1 oM (iZ z);exact⟨by simpa[NK]using a⟩
theorem Gq.new(h:Bs w u s p L):Gq w (u.alloc (.cells #[sN,iZ 0,sN,sN] 68)) s p L u.heap.size sN sN [] [] 0:=by have h1:=((h.nil 2 1).nil 2 1).box 68 4 [sN,iZ 0,sN,sN] rfl;exact⟨by simpa[Ay,NK]using h1⟩
end
theorem Gq.done{u':World}{p:Int}{P B:Nat}{E:List Ax}{ps ls:List Int}{res:Int}(h:Gq w u s p (Ab v F cs G ts (gb P v::E)) B pv lv ps ls res)(V:Value)(e:u'.ownsRow w.heap.size 68 4 V (G.length+1) (G.flatMap AJ++AJ (⟨ps,res,ls,[]⟩,⟨pv,lv,sN⟩)))(d:u.grownBy u' v.f.ownBlock)(c:V.ownBlock=v.f.ownBlock\/V.ownBlock=some u.heap.size):Bs w (u'.setCell ⟨P,2,none⟩ V) s p (Ab {v with f:=V} F cs (G++[(⟨ps,res,ls,[]⟩,⟨pv,lv,sN⟩)]) ts (gb P {v with f:=V}::E))/\u'.cell? ⟨P,2,none⟩=some v.f/\u'.frozen? ⟨P,2,none⟩=false:=by
 have b:Bs w u s p (Ab v F cs G ts (gb P v::E)++[Ay pv ps,Ay lv ls]):=h.bl.sub (by refine List.Sublist.append_left ?_ _;exact .cons_cons _ (.cons_cons _ (List.nil_sublist _)));have h1:=b.nil 96 4;have h2:Bs w u s p (Ab v F cs G ts (gb P v::E)++Bl ((⟨ps,res,ls,[]⟩:MF),(⟨pv,lv,sN⟩:VF))):=by simpa[Bl,A3]using h1
 have a:=h2.ic V e d c;exact⟨a.gL (D:=[]) 2 oM V,a.cell (Ap (show gb P v∈_ from sP)) 2 oM,a.frozen (Ap (show gb P v∈_ from sP)) 2⟩
structure Nb(w:World)(v:VP)(x:MP)(F:List (List Int×Value))(G:List (MF×VF)):Prop where
 r:Rd w 1 v.r x.aB.length (F.flatMap Bi)
 rr:∀y∈F,Rd w 1 y.2 y.1.length (y.1.flatMap Ad)
 k:Rd w 2 v.k x.ag.length (x.ag.flatMap MC.cells)
 f:Rd w 4 v.f x.funcs.length (G.flatMap AJ)
 ff:∀y∈G,IG w y.2 y.1
 t:Rd w 4 v.t x.a7.length (x.a7.flatMap MT.cells)
def Cy(b t:Nat)(w:World)(v:VP)(x:MP):Prop:=∃F G,F.map Prod.fst=x.aB/\G.map Prod.fst=x.funcs/\∀a:World,(∀k,b<=k->k<t->a.heap[k]?=w.heap[k]?)->Nb a v x F G
theorem EU{c:World}{e:TypeId}{s:Value}{k n:Nat}{xs:List Value}(h:w.ownsRow base e k s n xs)(i:∀k,base<=k->k<w.heap.size->c.heap[k]?=w.heap[k]?):c.ownsRow base e k s n xs:=by
 refine⟨h.1,?_⟩;rcases h.2 with h|⟨g,cap,d,rfl,a,b,f⟩
 . exact .inl h
 refine .inr ⟨g,cap,d,rfl,a,?_,f⟩;rw[i g a (kN.1 b).1];exact b
theorem EZ.jL(h:EZ w base v x):Cy base w.heap.size w v x:=by obtain⟨⟨F,g,h1,h2⟩,d,⟨G,i,e,c⟩,f⟩:=h;exact⟨F,G,g,i,fun j a=>⟨Rd.cB (EU h1 a),fun y b=>Rd.cB (EU (h2 y b) a),Rd.cB (EU d a),Rd.cB (EU e a),fun y b=>⟨Rd.cB (EU (c y b).1 a),Rd.cB (EU (c y b).2.1 a),Rd.cB (EU (c y b).2.2 a)⟩,Rd.cB (EU f a)⟩⟩
section
variable {b t:Nat} {w w':World} {v:VP} {x:MP}
theorem Cy.rd(h:Cy b t w v x):Ft w v x:=by
 obtain⟨F,G,h1,h2,a⟩:=h;have q:=a w fun _ _ _=>rfl
 exact⟨⟨F,h1,q.r,q.rr⟩,q.k,⟨G,h2,q.f,q.ff⟩,q.t⟩
theorem Cy.wide{a c:Nat}(h:Cy b t w v x)(g:a<=b)(i:t<=c):Cy a c w v x:=by obtain⟨F,G,h1,h2,d⟩:=h;exact⟨F,G,h1,h2,fun f e=>d f fun k h1 h2=>e k oM oM⟩
theorem Cy.same(h:Cy b t w v x)(d:∀k,b<=k->k<t->w'.heap[k]?=w.heap[k]?):Cy b t w' v x:=by obtain⟨F,G,h1,h2,a⟩:=h;exact⟨F,G,h1,h2,fun e h2=>a e fun k a c=>by rw[h2 k a c,d k a c]⟩
theorem Cy.draw(h:Cy b t w v x)(a:AG g w w')(c:g<b)(d:t<=w.heap.size):Cy b t w' v x:=h.same fun k h1 h2=>a.block k oM oM
theorem Cy.below(h:Cy b t w v x)(a:Below w.heap.size w w')(c:t<=w.heap.size):Cy b t w' v x:=h.same fun k h1 h2=>(a.block k oM)
theorem Cy.set(h:Cy b t w v x)(a:Addr)(c:a.block<b\/t<=a.block)(y:Value):Cy b t (w.setCell a y) v x:=h.same fun k h1 h2=>km w a k y oM
theorem Cy.drawn(h:Cy b t w v x)(d:g<b)(e:t<=w.heap.size):∀a,AG g w a->Ft a v x:=fun a c=>(h.draw c d e).rd
theorem Cy.code(h:Cy b t w v x)(B:0<x.funcs.length):∃a d i,v.f=.slice (some ⟨a,d,none⟩) x.funcs.length i/\∃u:Nat->Value,∀l:World,(∀k,b<=k->k<t->l.heap[k]?=w.heap[k]?)->∀j f,x.funcs[j]?=some f->l.cell? ⟨a,d+j*4+3,none⟩=some (u j)/\Rd l 4 (u j) f.code.length (f.code.flatMap MI.cells):=by
 obtain⟨F,G,h1,h2,p⟩:=h;obtain⟨a,d,i,e⟩:∃a d i,v.f=.slice (some ⟨a,d,none⟩) x.funcs.length i:=by
  rcases(p w fun _ _ _=>rfl).f.2 with⟨e,_⟩|⟨a,d,i,e,r⟩
  . omega
  exact⟨a,d,i,e⟩
 refine⟨a,d,i,e,fun j=>match G[j]? with|some y=>y.2.c|none=>.slice none 0 0,fun l z j f m=> ?_⟩;have q:=p l z;rw[<-h2,kh]at m;cases hG:G[j]? with
 |none=>rw[hG]at m;cases m
 | some y=>
   rw[hG]at m;simp only[nF,i4]at m;subst m;show l.cell? ⟨a,d+j*4+3,none⟩=some (match G[j]? with|some y=>y.2.c|none=>.slice none 0 0)/\Rd l 4 (match G[j]? with|some y=>y.2.c|none=>.slice none 0 0) _ _
   rw[hG];refine⟨?_,(q.ff y (d9 hG)).2.2⟩;have s:=q.f;rw[e]at s;rcases s.2 with⟨A,_⟩|⟨g,o,c,n,r⟩
   . omega
   simp only[ip,i4,lF,lp]at n;obtain⟨⟨rfl,rfl⟩,_⟩:=n;exact Rd.elem Aj r j y hG 3 _ rfl
end
theorem QT{G1 G2:List (MF×VF)}{f f':MF}{c0 c1:Value}(a:f'.result=f.result):((G1++(f,(⟨pv,lv,c0⟩:VF))::G2).flatMap AJ).set (G1.length*4+3) c1=(G1++(f',(⟨pv,lv,c1⟩:VF))::G2).flatMap AJ:=by
 induction G1 with
 |nil=>simp[AJ,a]
 | cons x r b=>rw[kL,kL,kG,kG,<-b,kY,show(r.length+1)*4+3=r.length*4+3+1+1+1+1 from oM];rfl
section
variable {w u:World} {s:CP} {p:Int} {v:VP} {F:List (List Int×Value)} {cs:List MC} {G1 G2:List (MF×VF)} {ts:List MT} {P gf cf:Nat} {X:Ax} {D:List Ax} {f:MF} {pv lv c0 vc:Value} {code:List MI}
theorem Bs.jd(h:Bs w u s p (Ab v F cs (G1++(f,(⟨pv,lv,c0⟩:VF))::G2) ts (A3 vc code::X::D)))(c:v.f=.slice (some ⟨gf,0,none⟩) (G1++(f,(⟨pv,lv,c0⟩:VF))::G2).length cf):Bs w (u.setCell ⟨gf,G1.length*4+3,none⟩ vc) s p (Ab v F cs (G1++((⟨f.params,f.result,f.locals,code⟩:MF),(⟨pv,lv,vc⟩:VF))::G2) ts (X::D))/\u.cell? ⟨gf,G1.length*4+3,none⟩=some c0/\u.frozen? ⟨gf,G1.length*4+3,none⟩=false:=by
 have b:=h.gK.2.2.2.1;rw[c]at b;have g:=(lm b (G1.length*4+3) vc).1;rw[QT (f:=f) (f':=⟨f.params,f.result,f.locals,code⟩) rfl]at g;have j:=(b.lt gf rfl).1;have d:=kW b (G1.length*4+3) (by simp only[f6,kY];omega);rw[CQ AJ 4 Aj _ G1.length 3 (f,(⟨pv,lv,c0⟩:VF)) sP oM]at d;refine⟨⟨?_,h.aC.setCell j _⟩,d,b.frozenAt _⟩;have i:CJ u w.heap.size ((Bf v.r F::A5 F++[Cd v.k cs])++AP v.f (G1++(f,(⟨pv,lv,c0⟩:VF))::G2)::(AV (G1++(f,(⟨pv,lv,c0⟩:VF))::G2)++(BS v.t ts::A3 vc code::X::D))):=by simpa[Ab,List.append_assoc]using h.sep
 have h1:=i.put ((G1++((⟨f.params,f.result,f.locals,code⟩:MF),(⟨pv,lv,vc⟩:VF))::G2).flatMap AJ) (by show(u.setCell ⟨gf,G1.length*4+3,none⟩ vc).ownsRow _ _ _ v.f _ _;rw[c];exact g) (by show u.grownBy (u.setCell ⟨gf,G1.length*4+3,none⟩ vc) v.f.ownBlock;rw[c];exact Ew (⟨rfl,rfl,rfl,Nat.le_refl _,fun _ _ _=>rfl⟩:u.grownBy u (some gf)) _ _);have e:({AP v.f (G1++(f,(⟨pv,lv,c0⟩:VF))::G2)with xs:=(G1++((⟨f.params,f.result,f.locals,code⟩:MF),(⟨pv,lv,vc⟩:VF))::G2).flatMap AJ}:Ax)=AP v.f (G1++((⟨f.params,f.result,f.locals,code⟩:MF),(⟨pv,lv,vc⟩:VF))::G2):=by simp[AP]
 rw[e]at h1;have h2:CJ (u.setCell ⟨gf,G1.length*4+3,none⟩ vc) w.heap.size (Ab v F cs (G1++((⟨f.params,f.result,f.locals,code⟩:MF),(⟨pv,lv,vc⟩:VF))::G2) ts (X::D)++[A3 c0 f.code]):=h1.perm (by
  classical
  rw[m7];intro a;simp only[Ab,AV,Bl,kO,kG,kl,kj,lC];omega)
 exact h2.sub (lD _ _)
end
structure GQ(n i:Nat)(G:List (MF×VF)):Prop where
 len:G.length=n
 fn:∀y∈G,y.1.params.length<=8/\(3<=y.1.locals.length/\y.1.locals.length<=1000)/\y.1.code.length<=20000/\y.1.wf
structure KQ(i:Nat)(cs:List MC)(ts:List MT):Prop where
 cl:cs.length<=100+20000*i
 cw:∀x∈cs,x.wf
 tl:ts.length<=64
 tw:∀x∈ts,x.wf
section
variable {w u:World} {s:CP} {p:Int} {v:VP} {F:List (List Int×Value)} {cs:List MC} {G:List (MF×VF)} {ts:List MT} {P:Nat} {E:List Ax}
theorem GS.new(h:Bs w u s p (Ab v F cs G ts (gb P v::E)))(d:GQ n i G)(b:KQ i cs ts):GS w (u.alloc (.cells #[.pointer (some ⟨s.S,0,none⟩),.pointer (some ⟨P,0,none⟩),iZ (i:Int),sN,iZ L0,iZ 0,iZ 0] 156)) s ⟨F,G,P,u.heap.size,i,L0,cs.length,64⟩ p L0 0 0 E:=by
 have h1:=(h.nil 96 4).box 156 7 [.pointer (some ⟨s.S,0,none⟩),.pointer (some ⟨P,0,none⟩),.int .i64 (i:Int),sN,.int .i64 L0,.int .i64 0,.int .i64 0] rfl;refine⟨v,sN,⟨[],cs,ts⟩,⟨h1.perm ?_⟩,⟨sP,sP,b.tl,(fun x c=>by cases c),b.cw,b.tw⟩⟩;classical
 rw[m7];intro a;simp only[Ab,A3,Py,kl,kj,lC,lG,kp];omega
theorem DH.new{d:Nat}(c:F.length=3/\(∀x∈F,x.1.length<=100)/\∀x∈F,∀z∈x.1,Cr z)(a:GQ n i G)(g:KQ i cs ts)(f:i<n)(h:n<=4)(e:0<=L0/\L0<=300):DH ⟨F,G,P,d,i,L0,cs.length,64⟩:=⟨c.1,c.2.1,by rw[a.len];exact f,by show G.length<=32;rw[a.len];omega,fun y b=>(a.fn y b).1,fun y b=>(a.fn y b).2.1,e,fun y b=>(a.fn y b).2.2.2,c.2.2,by have:=g.cl;show cs.length<=100000;omega,by show 64<=64;omega⟩
end
section
variable {w u:World} {s:CP} {k:GK} {p left lv:Int} {sl:Nat} {D:List Ax}
theorem GS.fnr(h:GS w u s k p left lv sl D)(a:DH k):∃(gf cf:Nat) (r:Int) (c0:Value),u.cell? ⟨k.P,2,none⟩=some (sG gf k.G.length cf)/\u.cell? ⟨gf,k.fi*4+1,none⟩=some (iZ r)/\Cr r:=by obtain⟨v,t,g,h1,h2⟩:=h.ex;obtain⟨y,c⟩:∃y,k.G[k.fi]?=some y:=⟨_,an a.fi⟩;obtain⟨gf,cf,f,j,al,cl,e,i,d,l,⟨f0,f1,f2,f3⟩,m,n,q⟩:=h1.bl.fn c;have b:=h1.gI.2.2.1;rw[d]at b;exact⟨gf,cf,_,sN,b,f1,(a.wf y (d9 c)).result⟩
theorem GS.done(h:GS w u s k p left lv 0 D)(j:DH k)(l:GQ n k.fi k.G)(X:-16800<=left)(Y:k.L0<=210)(W:k.nc<=100+20000*k.fi)(Z:k.nt<=64):∃(gf cf:Nat) (c0:Value) (a:Option Addr) (c:Nat),(u.cell? ⟨k.P,2,none⟩=some (sG gf k.G.length cf)/\u.cell? ⟨k.Gb,3,none⟩=some (.slice a (k.L0-left).toNat c)/\u.cell? ⟨gf,k.fi*4+3,none⟩=some c0/\u.frozen? ⟨gf,k.fi*4+3,none⟩=false)/\(∃v cs G ts,Bs w (u.setCell ⟨gf,k.fi*4+3,none⟩ (.slice a (k.L0-left).toNat c)) s p (Ab v k.F cs G ts (gb k.P v::D))/\GQ n (k.fi+1) G/\KQ (k.fi+1) cs ts)/\((u.setCell ⟨gf,k.fi*4+3,none⟩ (.slice a (k.L0-left).toNat c)).cell? ⟨k.P,2,none⟩=some (sG gf k.G.length cf)/\(u.setCell ⟨gf,k.fi*4+3,none⟩ (.slice a (k.L0-left).toNat c)).cell? ⟨k.Gb,3,none⟩=some (.slice a (k.L0-left).toNat c)):=by
 obtain⟨v,vc,g,h1,h2⟩:=h.ex;obtain⟨⟨f,i,d,c0⟩,t⟩:∃y,k.G[k.fi]?=some y:=⟨_,an j.fi⟩;obtain⟨gf,cf,S,U,al,cl,R,T,r,V,⟨f0,f1,f2,f3⟩,o1,o2,o3⟩:=h1.bl.fn t;obtain⟨⟨a,c,J⟩,_⟩:=h1.bl.ia;have L:g.code.length=(k.L0-left).toNat:=by have:=h2.len;omega
 have I:k.G=k.G.take k.fi++(f,(⟨i,d,c0⟩:VF))::k.G.drop (k.fi+1):=by
  have M:=j.fi;have K:k.G[k.fi]=(f,(⟨i,d,c0⟩:VF)):=by have:=an M;rw[t]at this;exact(kH this).symm
  rw[<-K,List.getElem_cons_drop,mN]
 have B:(k.G.take k.fi).length=k.fi:=by rw[lB];have:=j.fi;omega
 have H:=h1.gI.2.2.1;have C:=h1.cells.2.2.2.1;rw[r]at H;have E:=h1.bl;rw[I]at E;obtain⟨m,z,A⟩:=E.jd (by rw[r,<-I]);rw[B]at m z A;rw[J,L]at m C;have q:Bs w (u.setCell ⟨gf,k.fi*4+3,none⟩ (.slice a (k.L0-left).toNat c)) s p (Ab v k.F g.ag (k.G.take k.fi++((⟨f.params,f.result,f.locals,g.code⟩:MF),(⟨i,d,.slice a (k.L0-left).toNat c⟩:VF))::k.G.drop (k.fi+1)) g.a7 (gb k.P v::D)++[Py s k (.slice a (k.L0-left).toNat c) left lv]):=m.perm (by
  classical
  rw[m7];intro x;simp only[Ab,kl,kj,lC];omega)
 refine⟨gf,cf,c0,a,c,⟨H,C,z,A⟩,⟨v,_,_,_,q.sub (lD _ _),⟨?_,fun y N=> ?_⟩,⟨?_,h2.wk,by have:=h2.nt;omega,h2.wt⟩⟩,?_⟩
 . rw[f6,kY,B,lN];have:=j.fi;have:=l.len;omega
 . rcases kB.1 N with e|e
   . exact l.fn y (lz e)
   rcases ka.1 e with e|e
   . rw[e];have b:=l.fn _ (d9 t);exact⟨b.1,b.2.1,by show g.code.length<=20000;omega,⟨b.2.2.2.params,b.2.2.2.result,b.2.2.2.locals,h2.wc⟩⟩
   exact l.fn y (mx e)
 . have:=h2.nc;show g.ag.length<=_;omega
 have O:Py s k (.slice a (k.L0-left).toNat c) left lv∈Ab v k.F g.ag (k.G.take k.fi++((⟨f.params,f.result,f.locals,g.code⟩:MF),(⟨i,d,.slice a (k.L0-left).toNat c⟩:VF))::k.G.drop (k.fi+1)) g.a7 (gb k.P v::D)++[Py s k (.slice a (k.L0-left).toNat c) left lv]:=sP;have Q:gb k.P v∈Ab v k.F g.ag (k.G.take k.fi++((⟨f.params,f.result,f.locals,g.code⟩:MF),(⟨i,d,.slice a (k.L0-left).toNat c⟩:VF))::k.G.drop (k.fi+1)) g.a7 (gb k.P v::D)++[Py s k (.slice a (k.L0-left).toNat c) left lv]:=by simp[Ab]
 have c3:=q.cell O 3 oM;have c2:=(q.four Q).1.2.2.1;rw[r]at c2;exact⟨c2,c3⟩
end
structure PB(n:Nat)(m:MP):Prop where
 fl:1<=m.funcs.length/\m.funcs.length<=32
 rl:m.aB.length<=3
 rg:∀r∈m.aB,r.length<=n
 cl:m.ag.length<=n
 tl:m.a7.length<=n
 fs:∀f∈m.funcs,f.params.length<=n/\f.locals.length<=n/\f.code.length<=n
 wf:m.wf
theorem PB.small(h:PB n m)(a:n<=1048576):m.small:=⟨by have:=h.rl;omega,fun r c=>jX (h.rg r c) a,jX h.cl a,by have:=h.fl;omega,fun f b=>⟨jX (h.fs f b).1 a,jX (h.fs f b).2.1 a,jX (h.fs f b).2.2 a⟩,jX h.tl a⟩
def JP(s:CP)(p m:Int)(n:Nat)(u:World)(e:Ending)(a:World):Prop:=∃(v:VP) (x:MP),e=.returned (.agg #[v.r,v.k,v.f,v.t])/\Cy u.heap.size a.heap.size a v x/\PB n x/\Dr s p m u a
def VE(s:CP)(p m:Int)(n:Nat)(u:World)(e:Ending)(a:World):Prop:=∃(v:VP) (x:MP),e=.returned (.agg #[v.r,v.k,v.f,v.t])/\Cy u.heap.size a.heap.size a v x/\PB n x/\x.aB.length=3/\Dr s p m u a
def Tx(s:CP)(u:World)(v:VP)(m:MP):Prop:=∃F G,F.map Prod.fst=m.aB/\G.map Prod.fst=m.funcs/\∀a,AG s.S u a->Nb a v m F G
theorem Tx.rd(h:Tx s u v m):∀a,AG s.S u a->Ft a v m:=fun a c=>by obtain⟨F,G,h1,h2,b⟩:=h;have q:=b a c;exact⟨⟨F,h1,q.r,q.rr⟩,q.k,⟨G,h2,q.f,q.ff⟩,q.t⟩
def PS:Prop:=∀(u:World) (s:CP) (p:Int) (v:VP) (m:MP) (n:Nat),Dy u s.S s.a s.len s.cap p->p+100<=1000000000000->Tx s u v m->PB n m->m.aB.length=3->n<=200000->Calls Tryz.prog 54 #[.pointer (some ⟨s.S,0,none⟩),.agg #[v.r,v.k,v.f,v.t]] u (JP s p 100 (n+1) u)
theorem PB.mono{n':Nat}(h:PB n x)(a:n<=n'):PB n' x:=⟨h.fl,h.rl,fun r c=>jX (h.rg r c) a,jX h.cl a,jX h.tl a,fun f b=>⟨jX (h.fs f b).1 a,jX (h.fs f b).2.1 a,jX (h.fs f b).2.2 a⟩,h.wf⟩
theorem Ft.jb(h:Ft w v x):∃a c1 b c2 c c3 d c4,v=⟨.slice a x.aB.length c1,.slice b x.ag.length c2,.slice c x.funcs.length c3,.slice d x.a7.length c4⟩:=by obtain⟨v1,v2,v3,k⟩:=v;obtain⟨xs,_,h1,_⟩:=h.aB;obtain⟨l,_,j,_⟩:=h.funcs;obtain⟨a,c1,e⟩:=h1.bW;obtain⟨b,c2,f⟩:=h.ag.bW;obtain⟨c,c3,g⟩:=j.bW;obtain⟨d,c4,i⟩:=h.a7.bW;simp only[]at e f g i;subst e f g i;exact⟨a,c1,b,c2,c,c3,d,c4,rfl⟩
theorem SL(l:List MC):∀u∈l.flatMap MC.cells,u.oneCell'=true:=fun u b=>by obtain⟨x,_,a⟩:=lP.1 b;simp only[MC.cells,ka,kr,ly]at a;rcases a with rfl|rfl<;>rfl
end Go.Proofs.YthjbicggfnnonaaGreatDoor
