import Derived.Test.YtmalfecapdmdbaaGreatHo30
namespace Go.Proofs.YtmalfecapdmdbaaGreat
open Go.ChangeShapes Go.WideShapes Go.ChangeAt Go.RowKit Go.Proofs.Tryz
set_option linter.unusedVariables false
open Go.Value renaming slice → Z,int → Ag,agg → Am
open Option renaming some → K,none → M
open Go renaming Value → J,World → Y,Calls → Ai,TypeId → Aj
open Go.RowKit renaming Hid → Ae,Below → Ah
open Go.IntKind renaming i64 → Af
open Go.Obj renaming cells → Ak
open Go.Ending renaming returned → Al
open Go.Proofs.Tryz renaming prog → Ap
open Go.World renaming setCell → Aa,ownsRow → Ab,alloc → Ac
open List renaming flatMap → Ad
set_option maxHeartbeats 4000000
set_option maxRecDepth 100000
variable {w u:Y}{g:VF}{c q b:Int}{v:VP}{f:MF}{X:Nat}
theorem Bh(b:Ah w w u){a:Addr}{x:J}(h:w a=K x):u a=K x:=by rw[b.cell (hC h)];exact h
theorem Hm{base g k n:Nat}{e t:Aj}{s:J}{xs:List J}{c:Array J}{fr:Nat×Nat}(h:Ab w base e k s n xs)(f:w.heap[g]?=K (Obj.cells c t fr))(i:e≠t):∀j,s.ownBlock=K j->j≠g:=by
 intro j b d;subst d;rcases h.2 with⟨rfl,_⟩|⟨p,l,m,rfl,_,a,_⟩
 . cases b
 simp only[Value.ownBlock,kI]at b;subst b;rw[f]at a;simp only[kI,mg]at a;exact i a.2.1.symm
structure Vh(w u:World)(v:VP)(g:VF)(f fq:MF)(q b c:Int)(X Y:Nat)(tv gv:J):Prop where
 iP:Md w u v g f 28 q b c
 fb:u ⟨X,1,M⟩=K ↑fq.gy
 eb:AC u Y #[tv,gv] 145
 own:Ab u w 2 1 tv fq.gw (Ad As fq.gw)
 yR: ↑w+1+1+1<Y
 XY:X<Y
theorem Vh.done{n:MF}{y:Nat}{i d:J}(h:Vh w u v g f n q b c X y i d)(j:List Int)(z:Ab u w 2 1 d j (Ad As j)):
 DI w n.gw j (Al (Am #[i,d])) (Aa (Aa u ⟨(w:Nat)+1+1+1,0,M⟩ i) ⟨(w:Nat)+1+1+1,1,M⟩ d)/\(Aa (Aa u ⟨(w:Nat)+1+1+1,0,M⟩ i) ⟨(w:Nat)+1+1+1,1,M⟩ d) ⟨(w:Nat)+1+1+1,0,M⟩=K i/\(Aa (Aa u ⟨(w:Nat)+1+1+1,0,M⟩ i) ⟨(w:Nat)+1+1+1,1,M⟩ d) ⟨(w:Nat)+1+1+1,1,M⟩=K d:=by
 have k:=h.iP.rb.set 0 i;have l:=k.set 1 d;have t:=l.cell 0;have x:=l.cell 1;simp only[lF,lI,lT,kB,i9,kC]at t x;have keep:∀{s:J} {m:Nat} {xs:List J},Ab u w 2 1 s m xs->Ab (Aa (Aa u ⟨(w:Nat)+1+1+1,0,M⟩ i) ⟨(w:Nat)+1+1+1,1,M⟩ d) w 2 1 s m xs:= λr=>by have p:=kN r (a:=⟨(w:Nat)+1+1+1,0,M⟩) (λe=>Hm r h.iP.rb dC _ e rfl) i;exact kN p (a:=⟨(w:Nat)+1+1+1,1,M⟩) (λe=>Hm p k dC _ e rfl) d
 exact⟨⟨_,_,rfl,Rd.gM (keep h.own),Rd.gM (keep z),(h.iP.gT.e8.setCell oS _).setCell oS _⟩,t,x⟩
theorem Vh.gU{k:MF}{d:Nat}{t:J}(h:Vh w u v g f k q b c X d t sN):
 Vh w (Ac (Aa u ⟨d,1,M⟩ (sG u 1 1)) (Ak #[k.gy] 2)) v g f k q b c X d t (sG u 1 1)/\Ab (Ac (Aa u ⟨d,1,M⟩ (sG u 1 1)) (Ak #[k.gy] 2)) w 2 1 (sG u 1 1) 1 ([k.gy].flatMap As):=by
 have C:=h.yR;have B:=h.XY;have p:=h.eb.set 1 (sG u 1 1);have s:=kN h.own (a:=⟨d,1,M⟩) (λe=>Hm h.own h.eb dC _ e rfl) (sG u 1 1);have f1:(Aa u ⟨d,1,M⟩ (sG u 1 1)) ⟨X,1,M⟩=K ↑k.gy:=by rw[oJ (lY u ⟨d,1,M⟩ _ _ oS)];exact h.fb
 have n:Md w (Aa u ⟨d,1,M⟩ (sG u 1 1)) v g f 28 q b c:=by
  have j:∀{m i:Nat} {x:J},m< ↑w+1+1+1->u ⟨m,i,M⟩=K x->(Aa u ⟨d,1,M⟩ (sG u 1 1)) ⟨m,i,M⟩=K x:= λF D=>by rw[oJ (lY u ⟨d,1,M⟩ _ _ oS)];exact D
  have A:=h.iP.gT;exact⟨⟨A.e8.setCell oS _,⟨j oM A.prog.c0,j oM A.prog.c1,j oM A.prog.c2,j oM A.prog.c3⟩,⟨j oM A.func.c0,j oM A.func.c1,j oM A.func.c2,j oM A.func.c3⟩,⟨j oM A.ins.c0,j oM A.ins.c1,j oM A.ins.c2,j oM A.ins.c3⟩⟩,h.iP.rb.other oS _⟩
 have z:(Aa u ⟨d,1,M⟩ (sG u 1 1)).heap.size=u.heap.size:=lr _ _ _;generalize Aa u ⟨d,1,M⟩ (sG u 1 1)=y at p s f1 n z⊢;have l:=Aq y (Ak #[k.gy] 2);have r:=AC.new y #[k.gy] 2;rw[z]at r;have E:=n.gT.e8.size;exact⟨⟨n.a7 l,Bh l f1,p.a7 l,Aw s l lR,C,B⟩,⟨rfl,.inr ⟨u,1,_,rfl,oM,r,Nat.le_refl _,oX,rfl,rfl⟩⟩⟩
theorem UY{q:Prop}(h:q:=by rintro u6 HC6;clear hy0' hy1' hz1' fb;have hy0':=HC6.1.eb.cell 0;have hy1':=HC6.1.eb.cell 1;have r0:=HC6.1.iP.rb.cell 0;have r1:=HC6.1.iP.rb.cell 1;have z0:=HC6.1.iP.rb.frozen 0;have z1:=HC6.1.iP.rb.frozen 1;simp only[kB,i9,kC]at hy0' hy1' r0 r1;go_wp2_with fail;rw[HR];obtain⟨he,q0,q1⟩:=HC6.1.done [fq.gy] HC6.2;exact kQ (by simp[results,results74,go_sem,q0,q1]) rfl he):q:=h
theorem Va{q:Prop}(h:q:=by
 have hr':(fq.gy != 0)=false:=by simpa using hr
 have hr2:(fq.gy==0)=true:=by simpa using hr
 have r0:=HC.iP.rb.cell 0;have r1:=HC.iP.rb.cell 1;have z0:=HC.iP.rb.frozen 0;have z1:=HC.iP.rb.frozen 1;simp only[kB,i9,kC]at r0 r1;go_wp2_with fail;rw[HR];obtain⟨he,q0,q1⟩:=HC.done [] (lQ _ _ _ _);exact kQ (by simp[results,results74,go_sem,q0,q1]) rfl he):q:=h
theorem VM(P O Q H G F:J)(f:MF)(fs:List MF)(af:Option Addr)(cf q:Nat)(fq:MF)(b c:Int)(w:Y)(hn:fs.length<=1048576)(hm:fq.small)(hf:Jy w (Z af fs cf) fs)(hq:fs[q]?=K fq):
 Ai Ap 74 #[Am #[P,O,Z af fs cf,Q],Am #[H,f.gy,G,F],Am #[iZ 28,q,b,c]] w (DI w fq.gw (A7 fq)):=by
 obtain⟨i0,hi,aA,aE,aF⟩:=lS Bp;obtain⟨xs,h1,h2,h3⟩:=hf;have am:=(i6.1 hq).1;obtain⟨⟨f',y⟩,E⟩:∃x,xs[q]?=K x:=⟨_,an (by rw[<-lC (f:=Prod.fst),h1];exact am)⟩;have e2:=Bo h1 E;rw[hq]at e2;obtain rfl:fq=f':=kH e2;have L:=h3 _ (i7 E);simp only[]at L;rcases h2.2 with⟨e0,_⟩|⟨g,o,c',D,U⟩
 . omega
 simp only[i8,lB]at D;obtain⟨rfl,rfl⟩:=D;have N:=Rd.elem Ay U q _ E 0 _ rfl;have k2:=Rd.elem Ay U q _ E 1 _ rfl;have V:=Rd.elem Ay U q _ E 2 _ rfl;have W:=Rd.elem Ay U q _ E 3 _ rfl;rw[kJ]at N;obtain⟨yp,yl,yc⟩:=y;simp only[]at N k2 V W;obtain⟨A,i,rfl⟩:∃a c,yp=Z a fq.gw c:=L.1.dk;obtain⟨al,cl,rfl⟩:∃a c,yl=Z a fq.gG c:=L.2.1.dk;obtain⟨l,cc,rfl⟩:∃a c,yc=Z a fq.eC c:=L.2.2.dk;have t:=Av (d5 N (d5 k2 (d5 V (d5 W (d5 L.1 hm.1)))));clear U N k2 V W hq h2 h3 L E e2 h1 hm;generalize fs.length=n at am hn⊢;have aP:(q:Int)<(n:Int):=oM;have E0:Ae _:=Md.of w ⟨P,O,sO g o n cf,Q⟩ ⟨H,G,F⟩ f 28 q b c;have hS:Ae (∀w,Ai Ap 53 #[iZ 28] w λe r=>e=Al (Am #[.string ⟨#[99,97,108,108]⟩,iZ 4,iZ 11])/\Ah w w r):= λw=>Cs 28 w
 have aM:=CF;go_enter func74,ntmps74;go_wp2_with fail;refine(hS.o _).mono ?_;rintro e d ⟨rfl,b1⟩;have s:Ae _:=E0.a7 b1;clear E0 b1 hS;have x0:=s.gT.ins.c0;have x1:=s.gT.ins.c1;have x2:=s.gT.ins.c2;have p2:=s.gT.prog.c2;have N:d ⟨g,o+q*4,M⟩=K (Z A fq.gw i):=Bh s.gT.e8 t.1;have k2:d ⟨g,o+q*4+1,M⟩=K ↑fq.gy:=Bh s.gT.e8 t.2.1
 have V:d ⟨g,o+q*4+2,M⟩=K (Z al fq.gG cl):=Bh s.gT.e8 t.2.2.1;have W:d ⟨g,o+q*4+3,M⟩=K (Z l fq.eC cc):=Bh s.gT.e8 t.2.2.2.1;generalize aj:fq.gw.length=h at N t;generalize fq.gG.length=p at V t;generalize fq.eC.length=m at W t;have S:Ae (↑fq.gw=h):=aj
 clear aj;have aQ:(w:Nat)+1+1+1<d.heap.size:=s.rb.lt;have aR:¬(w:Nat)+1+1+1=d.heap.size:=oM;have X:Ae (AC (Ac d (Ak #[Z A h i,fq.gy,Z al p cl,Z l m cc] 70)) d #[Z A h i,fq.gy,Z al p cl,Z l m cc] 70/\Ah d d (Ac d (Ak #[Z A h i,fq.gy,Z al p cl,Z l m cc] 70))):=⟨AC.new _ _ _,Aq _ _⟩
 have R:Ae (True/\Ah d d (Ac (Ac d (Ak #[Z A h i,fq.gy,Z al p cl,Z l m cc] 70)) (Ak #[] 2))/\Ab (Ac (Ac d (Ak #[Z A h i,fq.gy,Z al p cl,Z l m cc] 70)) (Ak #[] 2)) w 2 1 (Z (K ⟨(d:Nat)+1,0,M⟩) 0 0) 0 []):=by
  have n2:=AC.new (Ac d (Ak #[Z A h i,fq.gy,Z al p cl,Z l m cc] 70)) #[] 2;rw[show(Ac d (Ak #[Z A h i,fq.gy,Z al p cl,Z l m cc] 70)).heap.size= ↑d+1 from sP]at n2
  exact⟨trivial,Ar X.2 lR (Aq _ _),⟨rfl,.inr ⟨(d:Nat)+1,0,#[],rfl,oM,n2,Nat.le_refl _,mz _,rfl,sP⟩⟩⟩
 cases A with
 | none=>
   have hz:h=0:=by
    rcases t.2.2.2.2.1.2 with⟨e0,_⟩|⟨g',o',ao,D,_⟩
    . exact e0
    cases D
   subst hz;(go_upto_region 21 with fail);refine Ax (λu=>Ae (Vh w u ⟨P,O,Z (K ⟨g,o,M⟩) n cf,Q⟩ ⟨H,G,F⟩ f fq q b c d ((d:Nat)+1+1) (Z (K ⟨(d:Nat)+1,0,M⟩) 0 0) (Z M 0 0))) ?_ ?_
   . have C:=Aq (Ac (Ac d (Ak #[Z M 0 i,fq.gy,Z al p cl,Z l m cc] 70)) (Ak #[] 2)) (Ak #[Z (K ⟨(d:Nat)+1,0,M⟩) 0 0,Z M 0 0] 145);have n5:=AC.new (Ac (Ac d (Ak #[Z M 0 i,fq.gy,Z al p cl,Z l m cc] 70)) (Ak #[] 2)) #[Z (K ⟨(d:Nat)+1,0,M⟩) 0 0,Z M 0 0] 145;rw[show(Ac (Ac d (Ak #[Z M 0 i,fq.gy,Z al p cl,Z l m cc] 70)) (Ak #[] 2)).heap.size= ↑d+1+1 from sP]at n5
     exact⟨(s.a7 R.2.1).a7 C,Bh C (Bh (Aq _ _) (X.1.cell 1)),n5,by rw[S,lJ S];exact Aw R.2.2 C lR,oM,oM⟩
   rintro B HC;have hy0':=HC.eb.cell 0;have hy1':=HC.eb.cell 1;have hz1':=HC.eb.frozen 1;have fb:=HC.fb;have yR:=HC.yR;have XY:=HC.XY;have aI:¬ ↑w+1+1+1=((d:Nat)+1+1):=oM
   have aJ:¬((d:Nat)+1+1)= ↑w+1+1+1:=oM
   simp only[kB,i9,kC]at hy0' hy1';by_cases hr:fq.gy=0
   . have HR:Ae (A7 fq=[]):=kZ hr;exact Va
   have HR:Ae (A7 fq=[fq.gy]):=kP hr;(have hr':(fq.gy != 0)=true:=by simpa using hr);(have hr2:(fq.gy==0)=false:=by simpa using hr);(have aH:¬((d:Nat)+1+1)=B.heap.size:=by have:=HC.eb.lt;omega);have aG:((d:Nat)+1+1)<B.heap.size:=HC.eb.lt;(go_upto_region 23 with fail);refine Ax (λu=>Ae (Vh w u ⟨P,O,Z (K ⟨g,o,M⟩) n cf,Q⟩ ⟨H,G,F⟩ f fq q b c d ((d:Nat)+1+1) (Z (K ⟨(d:Nat)+1,0,M⟩) 0 0) (Z B 1 1)/\u.ownsRow w 2 1 (Z B 1 1) 1 ([fq.gy].flatMap As))) (HC.gU) ?_
   exact UY
 | some v=>
   have HO:Ae (Ab (Ac (Ac d (Ak #[Z (K v) h i,fq.gy,Z al p cl,Z l m cc] 70)) (Ak #[] 2)) w 2 1 (Z (K ⟨(d:Nat)+1,0,M⟩) 0 0) 0 []):=R.2.2;have HN:Ae (∀j u,(Ad As fq.gw)[j]?=K u->(Ac (Ac d (Ak #[Z (K v) h i,fq.gy,Z al p cl,Z l m cc] 70)) (Ak #[] 2)) (v.add j)=K u):= λj u hj=>by
    rcases t.2.2.2.2.1.2 with⟨e0,_⟩|⟨g',o',ao,D,aq⟩
    . (have hl:(Ad As fq.gw).length=0:=by rw[AE As 1 AA,S.o,e0]);rw[lJ hl]at hj;simp at hj
    simp only[i8,kI]at D;obtain⟨rfl,_,_⟩:=D;have:=aq j u hj;rw[Dk];exact Bh R.2.1 (Bh s.gT.e8 this)
   have HL:Ae ((Ad As fq.gw).length=h*1/\h<=1048576):=⟨by rw[AE As 1 AA,S],t.2.2.2.2.2⟩
   go_wp2_with (at_builtin;refine wpList_append_own _ rfl _ _ 46 rfl w 2 i0 (Ag Af 0) 1 8 underlying46 hi aA aE aF rfl dC _ 0 [] rfl HO v h i (Ad As fq.gw) rfl HL.1 HN ?c1 ?c2 ?c3 ?c4 ?_);(case c1=>intro u hu;obtain⟨z,_,hz⟩:=my.1 hu;simp[As]at hz;subst hz;rfl);(case c2=>have:=HL.2;unfold maxLen;omega);(case c3=>have:=HL.2;omega);(case c4=>have:=R.2.1.size;omega);intro v' r ah I au;(obtain⟨a2,c2,rfl⟩:∃a c,v'=Z a h c:=by have:=(Rd.gM ah).dk;simpa using this);have T:Ae (Ab r w 2 1 (Z a2 h c2) h (Ad As fq.gw)/\Ah d d r/\r ⟨d,1,M⟩=K ↑fq.gy/\(d:Nat)< ↑r):=by
    have hb:Ah ((d:Nat)+1) (Ac d (Ak #[Z (K v) h i,fq.gy,Z al p cl,Z l m cc] 70)) r:=⟨I.os.trans rfl,I.tape.trans rfl,I.output.trans rfl,by have:=I.size;simp at this⊢;omega, λk hk=>by rw[I.block k oT (by simp[Value.ownBlock];omega)];exact(Aq (Ac d (Ak #[Z (K v) h i,fq.gy,Z al p cl,Z l m cc] 70)) (Ak #[] 2)).block k oT⟩;have aw:(Ac d (Ak #[Z (K v) h i,fq.gy,Z al p cl,Z l m cc] 70)).heap.size= ↑d+1:=sP
    (have ae:Ah (Ac d (Ak #[Z (K v) h i,fq.gy,Z al p cl,Z l m cc] 70)).heap.size (Ac d (Ak #[Z (K v) h i,fq.gy,Z al p cl,Z l m cc] 70)) r:=by rw[aw];exact hb);refine⟨by simpa using ah,Ar X.2 lR ae,?_,by have:=ae.size;omega⟩;have:=(X.1.a7 ae).cell 1;simpa using this
   clear ah I au;(go_upto_region 21 with fail);refine Ax (λu=>Ae (Vh w u ⟨P,O,sO g o n cf,Q⟩ ⟨H,G,F⟩ f fq q b c d r (Z a2 h c2) sN)) ?_ ?_
   . have C:=Aq r (Ak #[Z a2 h c2,sN] 145);exact⟨(s.a7 T.2.1).a7 C,Bh C T.2.2.1,AC.new _ _ _,by rw[S];exact Aw T.1 C lR,by have:=T.2.2.2;omega,T.2.2.2⟩
   rintro B HC;have hy0':=HC.eb.cell 0;have hy1':=HC.eb.cell 1;have hz1':=HC.eb.frozen 1;have fb:=HC.fb;have yR:=HC.yR;have XY:=HC.XY;have aI:¬(w:Nat)+1+1+1=r.heap.size:=oM;have aJ:¬(r:Nat)= ↑w+1+1+1:=oM
   simp only[kB,i9,kC]at hy0' hy1';by_cases hr:fq.gy=0
   . have HR:Ae (A7 fq=[]):=kZ hr;exact Va
   have HR:Ae (A7 fq=[fq.gy]):=kP hr;(have hr':(fq.gy != 0)=true:=by simpa using hr);(have hr2:(fq.gy==0)=false:=by simpa using hr);(have aH:¬(r:Nat)=B.heap.size:=by have:=HC.eb.lt;omega);have aG:(r:Nat)<B.heap.size:=HC.eb.lt;(go_upto_region 23 with fail);refine Ax (λu=>Ae (Vh w u ⟨P,O,sO g o n cf,Q⟩ ⟨H,G,F⟩ f fq q b c d r (Z a2 h c2) (sG B 1 1)/\u.ownsRow w 2 1 (sG B 1 1) 1 ([fq.gy].flatMap As))) (HC.gU) ?_
   exact UY
end Go.Proofs.YtmalfecapdmdbaaGreat
