import Derived.Test.YtmalfecapdmdbaaGreatHo3
namespace Go.Proofs.YtmalfecapdmdbaaGreat
open Go.ChangeShapes Go.WideShapes Go.ChangeAt Go.RowKit Go.Proofs.Tryz
set_option linter.unusedVariables false
open Go.Value renaming slice → Z,int → Ag,agg → Am
open Option renaming some → K,none → M
open Go renaming World → Y,Calls → Ai
open Go.RowKit renaming Hid → Ae,Below → Ah
open Go.IntKind renaming i64 → Af
open Go.Obj renaming cells → Ak
open Go.Proofs.Tryz renaming prog → Ap
open Go.World renaming alloc → Ac
set_option maxHeartbeats 4000000
set_option maxRecDepth 100000
def Fi(p:MP)(c:MT):Prop:=∃f,p.bW[c.func.toNat]?=K f/\0<=c.func/\0<=c.head/\c.head<f.eC.length/\AN f c.gI=3
def Ej(d c:MT):Prop:=d.func<c.func\/d.func=c.func/\d.head<c.head
def Fh(p:MP)(cs:List MT)(j:Nat):Prop:=∀c,cs[j]?=K c->Fi p c/\∀i d,i+1=j->cs[i]?=K d->Ej d c
def Bi(p:MP):Prop:=p.eD.length<=64/\∀j,j< ↑p.eD->Fh p p.eD j
theorem Gt{p:MP}{cs:List MT}{k:Nat}(a:Fh p cs k)(h:∀j,j<k->Fh p cs j):∀j,j<k+1->Fh p cs j:=by
 intro j b;by_cases e:j=k
 . subst e;exact a
 exact h j oM
theorem NH{q:Prop}(h:q:=by
 go_wp2;go_quiet (fail);go_wp2;go_roundw;case rel=>exact⟨i+1+1,by omega,by go_num,Gt HA HT,⟨HW3.1.trans (Az _ _ _),HW3.2.1.a7 (Az _ _ _)⟩⟩
 simp[intOf];omega):q:=h
theorem NI{q:Prop}(h:q:=by
 rw[HX]at hc;obtain rfl:=kH hc;refine⟨HOK, λi' d' hi hd'=> ?_⟩;obtain rfl:i'=i:=by omega
 rw[HD]at hd';obtain rfl:=kH hd';unfold Ej;dsimp only;omega):q:=h
theorem NJ{q:Prop}(h:q:=by have:=(e.2 (i+1) (by rw[HL.1];exact hlt) _ HX).2 i _ rfl HD;simp only[Ej]at this;omega):q:=h
theorem Py(v:VP)(p:MP)(w:Y)(hs:p.small)(hw:p.wf)(h:Da w v p):
 Ai Ap 34 #[Am #[v.r,v.k,v.f,v.t]] w λe w'=>AJ e (Bi p)/\Ah w w w':=by
 obtain⟨T,S,vf,vt⟩:=v;have H1:=Av h.eD;obtain⟨xs,am,ah,aw⟩:=h.bW;simp only[]at ah;have aF:xs.length=p.bW.length:=by rw[<-am];simp
 have H:=Av (d5 ah (d5 am (d5 aw (d5 hs.func aF))));have hn:=hs.eD;have hm:=hs.bW;obtain⟨U,c1,z⟩:∃a c,vt=Z a p.eD c:=h.eD.dk;obtain⟨L,c2,e2⟩:=ah.dk;subst z e2;have HV:Ae p.wf:=hw;have l:Ae (Ah w w (Ac w (Ak #[T,S,Z L p.bW c2,Z U p.eD c1] 36))/\CX (Ac w (Ak #[T,S,Z L p.bW c2,Z U p.eD c1] 36)) w T S (Z L p.bW c2) (Z U p.eD c1)):=⟨Aq _ _,CX.new _ _ _ _ _ _⟩
 generalize au:p.eD.length=n at*;generalize aA:p.bW.length=m at*;have HL:=Av (d5 au aA);go_enter func34,ntmps34;go_wp2;go_loopw [3] (λi wr=>∃k:Nat,k<=n/\i=Ag Af k/\Ae (∀j,j<k->Fh p p.eD j)/\Ae (Ah w w wr/\CX wr w T S (Z L m c2) (Z U n c1))) (λi _=>n-(intOf i).toNat)
 case atStart=>exact⟨0,oM,rfl, λj hj=>oM,l⟩
 obtain⟨k,hk,rfl,HT,l⟩:=hrel;obtain⟨p0,p1,p2,p3⟩:=l.2;by_cases hlt:k<n
 . obtain ⟨x,D⟩:∃x,p.eD[k]?=K x:=⟨_,an (by rw[HL.1];exact hlt)⟩;have aj:=HV.eD x (i7 D);rcases H1.2 with⟨e0,_⟩|⟨b,o,c,z,P⟩
   . omega
   simp only[i8,lB]at z;obtain⟨rfl,rfl⟩:=z;have Q:=Rd.elem MT.dr P k x D 0 _ rfl;have i1:=Rd.elem MT.dr P k x D 1 _ rfl;have i2:=Rd.elem MT.dr P k x D 2 _ rfl;have i3:=Rd.elem MT.dr P k x D 3 _ rfl;rw[<-l.1.cell (hC Q),kJ]at Q;rw[<-l.1.cell (hC i1)]at i1;rw[<-l.1.cell (hC i2)]at i2;rw[<-l.1.cell (hC i3)]at i3;have HX:=Av D;have HC:=Av P;obtain⟨C,B,co,F⟩:=x;simp only[]at Q i1 i2 i3;obtain⟨x0,x1⟩:=Gs aj.1;obtain⟨x2,x3⟩:=Gs aj.2.1;have ao:=Av aj.2.2.1;have nb:¬b=wr.heap.size:=mA (hC Q);have mb:b<wr.heap.size:=hC Q;have np:¬(w:Nat)=wr.heap.size:=mA l.2.lt;have mp:(w:Nat)<wr.heap.size:=l.2.lt;have I:Ae (Ah w w (Ac wr (Ak #[C,B,co,Ag .u32 F] 88))/\CX (Ac wr (Ak #[C,B,co,Ag .u32 F] 88)) w T S (Z L m c2) (Z (K ⟨b,o,M⟩) n c1)/\CX (Ac wr (Ak #[C,B,co,Ag .u32 F] 88)) wr C B co (Ag .u32 F)):=⟨Ar l.1 lR (Aq _ _),l.2.alloc _,CX.new _ _ _ _ _ _⟩
   by_cases q0:C<0
   . (have q:Ae (¬Bi p):= λe=>by obtain⟨⟨f,s,O,_⟩,_⟩:=e.2 k (by rw[HL.1];exact hlt) _ HX;simp only[]at O;omega);go_wp2;go_ret;exact⟨.no q,I.1⟩
   obtain⟨fn,rfl⟩:=kX (show 0<=C from oM);by_cases q1:m<=fn
   . (have q:Ae (¬Bi p):= λe=>by obtain⟨⟨f,s,O,_⟩,_⟩:=e.2 k (by rw[HL.1];exact hlt) _ HX;have:=(i6.1 s).1;simp only[]at this;rw[HL.2]at this;omega);have aG:¬(fn:Int)<(m:Int):=oM;have aS:(m:Int)<=(fn:Int):=oM;go_wp2;go_ret;exact⟨.no q,I.1⟩
   have aG:¬(m:Int)<=(fn:Int):=oM;obtain⟨⟨f,v⟩,E⟩:∃y,xs[fn]?=K y:=⟨_,an (by rw[H.2.2.2.2];omega)⟩;have z:=Bo H.2.1 E;have A:Ae (DE wr v f/\f.small/\p.bW[fn]?=K f):=⟨(H.2.2.1 _ (i7 E)).a7 l.1 lR,H.2.2.2.1 _ (i7 z),z⟩
   rcases H.1.2 with⟨e0,_⟩|⟨b',o',c',z,V⟩
   . omega
   simp only[i8,lB]at z;obtain⟨rfl,rfl⟩:=z;have G:=Rd.elem Ay V fn _ E 0 _ rfl;have W:=Rd.elem Ay V fn _ E 1 _ rfl;have X:=Rd.elem Ay V fn _ E 2 _ rfl;have j3:=Rd.elem Ay V fn _ E 3 _ rfl;rw[<-l.1.cell (hC G),kJ]at G;rw[<-l.1.cell (hC W)]at W;rw[<-l.1.cell (hC X)]at X;rw[<-l.1.cell (hC j3)]at j3;simp only[]at G W X j3;obtain⟨ap,cp,ep⟩:=A.1.1.dk;obtain⟨al,cl,el⟩:=A.1.2.1.dk;obtain⟨ac,cc,ec⟩:=A.1.2.2.dk;obtain⟨vp,vl,vc⟩:=v;simp only[]at ep el ec G W X j3;subst ep el ec;have aR:¬b'=wr.heap.size:=mA (hC G);have aQ:b'<wr.heap.size:=hC G;have aJ:=A.2.1.2.2;have ae:Ae (Ah w w (Ac (Ac wr (Ak #[fn,B,co,Ag .u32 F] 88)) (Ak #[Z ap f.gw cp,f.gy,Z al f.gG cl,Z ac f.eC cc] 70))):=Ar I.1 lR (Aq _ _);by_cases q2:B<0
   . (have q:Ae (¬Bi p):= λe=>by obtain⟨⟨f,s,O,h3,_⟩,_⟩:=e.2 k (by rw[HL.1];exact hlt) _ HX;simp only[]at h3;omega);go_wp2;go_ret;exact⟨.no q,ae⟩
   by_cases q3:(f.eC:Int)<=B
   . (have q:Ae (¬Bi p):= λe=>by obtain⟨⟨g,s,O,h3,h4,_⟩,_⟩:=e.2 k (by rw[HL.1];exact hlt) _ HX;simp only[kA]at s h4;rw[A.2.2]at s;obtain rfl:=kH s;omega);go_wp2;go_ret;exact⟨.no q,ae⟩
   go_wp2_with fail;refine(Eo ⟨Z ap f.gw cp,Z al f.gG cl,Z ac f.eC cc⟩ f co _ A.2.1 ao (A.1.a7 (Ar (Aq _ _) lR (Aq _ _)) lR)).mono ?_;rintro e u ⟨rfl,bl⟩;have HW3:=Av (d5 (Ar ae lR bl) (d5 ((I.2.1.alloc _).a7 bl) ((I.2.2.alloc _).a7 bl)));by_cases R:AN f co=3
   . rw [R];have HOK:Ae (Fi p ⟨(fn:Int),B,co,F⟩):=⟨f,by simp only[kA];exact A.2.2,oS,oS,oS,R⟩;by_cases q5:k=0
     . subst q5;(have HA:Ae (Fh p p.eD 0):= λc hc=>by rw[HX]at hc;obtain rfl:=kH hc;exact⟨HOK, λi d hi=>oM⟩);go_wp2;go_quiet (fail);go_wp2;go_roundw;(case rel=>exact⟨1,oM,by go_num,Gt HA HT,⟨HW3.1.trans (Az _ _ _),HW3.2.1.a7 (Az _ _ _)⟩⟩);exact oI
     obtain⟨i,rfl⟩:∃i,k=i+1:=⟨k-1,oM⟩;obtain⟨d,hd'⟩:∃d,p.eD[i]?=K d:=⟨_,an (by rw[HL.1];omega)⟩;have y0:=Rd.elem MT.dr HC i d hd' 0 _ rfl;have y1:=Rd.elem MT.dr HC i d hd' 1 _ rfl;rw[<-HW3.1.cell (hC y0),kJ]at y0;rw[<-HW3.1.cell (hC y1)]at y1;obtain⟨p0,p1,p2,p3⟩:=HW3.2.1;obtain⟨r0,r1,r2,r3⟩:=HW3.2.2;obtain⟨N,aq,aH,aI⟩:=d;simp only[]at y0 y1;have HD:=Av hd';clear hd';have aM:((i+1:Nat):Int)-1=(i:Int):=oM;have aP:(0:Int)<((i+1:Nat):Int):=oM;by_cases q6:(fn:Int)<N
     . (have q:Ae (¬Bi p):= λe=>by exact NJ);go_wp2;go_quiet (fail);go_wp2;go_ret;exact⟨.no q,HW3.1.trans (Az _ _ _)⟩
     by_cases q7:N=(fn:Int)
     . subst q7;by_cases q8:B<=aq
       . (have q:Ae (¬Bi p):= λe=>by exact NJ);go_wp2;go_quiet (fail);go_wp2;go_ret;exact⟨.no q,HW3.1.trans (Az _ _ _)⟩
       . (have HA:Ae (Fh p p.eD (i+1)):= λc hc=>by exact NI);exact NH
     (have aX:(N==(fn:Int))=false:=by simpa using q7);(have aW:decide ((fn:Int)<N)=false:=by simpa using q6);have q9:N<(fn:Int):=oM;(have HA:Ae (Fh p p.eD (i+1)):= λc hc=>by exact NI);exact NH
   (have q:Ae (¬Bi p):= λe=>by obtain⟨⟨g,s,O,h3,h4,h5⟩,_⟩:=e.2 k (by rw[HL.1];exact hlt) _ HX;simp only[kA]at s h5;rw[A.2.2]at s;obtain rfl:=kH s;exact R h5);(have aT:(AN f co==3)=false:=by simpa using R);(have aU:(AN f co != 3)=true:=by simpa using R);go_wp2;go_ret;exact⟨.no q,HW3.1⟩
 have aE:n=k:=oM;subst aE;have HY:Ae (decide ((n:Int)<=64)=true↔Bi p):=by show _↔_;rw[mB];exact⟨λe=>⟨by rw[HL.1];omega,by rw[HL.1];exact HT⟩, λe=>by have:=e.1;rw[HL.1]at this;omega⟩
 go_wp2;go_ret;exact⟨.of HY,l.1⟩
end Go.Proofs.YtmalfecapdmdbaaGreat
