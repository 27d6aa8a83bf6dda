import Derived.Test.YtadcneiiokbofaaGreatBo20
import Derived.Test.YtadcneiiokbofaaGreatBo17
namespace Go.Proofs.YtadcneiiokbofaaGreat
open Go.ChangeShapes Go.WideShapes Go.ChangeAt Go.RowKit Go.Proofs.Tryz
set_option linter.unusedVariables false
open Go.Value renaming slice → Z,int → Ag,agg → Am
open Option renaming some → K,none → M
open Go renaming Value → J,World → Y,Calls → Ai,TypeId → Aj
open Go.RowKit renaming Hid → Ae,Below → Ah
open Go.IntKind renaming i64 → Af
open Go.Obj renaming cells → Ak
open Go.Ending renaming returned → Al
open Go.Proofs.Tryz renaming prog → Ap
open Go.World renaming setCell → Aa,ownsRow → Ab,alloc → Ac
open List renaming flatMap → Ad
set_option maxHeartbeats 4000000
set_option maxRecDepth 100000
variable {w u:Y}{g:VF}{n X:Nat}{s:J}{c q b:Int}{v:VP}{f:MF}
theorem Bi(b:Ah w w u){a:Addr}{x:J}(h:w a=K x):u a=K x:=by rw[b.cell (g8 h)];exact h
theorem Ib{base g k:Nat}{e t:Aj}{xs:List J}{c:Array J}{fr:Nat×Nat}(h:Ab w base e k s n xs)(f:w.heap[g]?=K (Obj.cells c t fr))(i:e≠t):∀j,s.ownBlock=K j->j≠g:=by
 intro j b d;subst d;rcases h.2 with⟨rfl,_⟩|⟨p,l,m,rfl,_,a,_⟩
 . cases b
 simp only[Value.ownBlock,lH]at b;subst b;rw[f]at a;simp only[lH,nL]at a;exact i a.2.1.symm
structure Wt(w u:World)(v:VP)(g:VF)(f fq:MF)(q b c:Int)(X Y:Nat)(tv gv:J):Prop where
 jg:MA w u v g f 28 q b c
 fb:u ⟨X,1,M⟩=K ↑fq.gV
 eb:AA u Y #[tv,gv] 180
 own:Ab u w 2 1 tv fq.gU (Ad As fq.gU)
 yR: ↑w+1+1+1<Y
 XY:X<Y
theorem Wt.done{n:MF}{y:Nat}{i d:J}(h:Wt w u v g f n q b c X y i d)(j:List Int)(z:Ab u w 2 1 d j (Ad As j)):
 DX w n.gU j (Al (Am #[i,d])) (Aa (Aa u ⟨(w:Nat)+1+1+1,0,M⟩ i) ⟨(w:Nat)+1+1+1,1,M⟩ d)/\(Aa (Aa u ⟨(w:Nat)+1+1+1,0,M⟩ i) ⟨(w:Nat)+1+1+1,1,M⟩ d) ⟨(w:Nat)+1+1+1,0,M⟩=K i/\(Aa (Aa u ⟨(w:Nat)+1+1+1,0,M⟩ i) ⟨(w:Nat)+1+1+1,1,M⟩ d) ⟨(w:Nat)+1+1+1,1,M⟩=K d:=by
 have k:=h.jg.rb.set 0 i;have l:=k.set 1 d;have t:=l.cell 0;have x:=l.cell 1;simp only[lM,lU,lX,lE,lC,lF]at t x;have keep:∀{s:J} {m:Nat} {xs:List J},Ab u w 2 1 s m xs->Ab (Aa (Aa u ⟨(w:Nat)+1+1+1,0,M⟩ i) ⟨(w:Nat)+1+1+1,1,M⟩ d) w 2 1 s m xs:= λr=>by have p:=lI r (a:=⟨(w:Nat)+1+1+1,0,M⟩) (λe=>Ib r h.jg.rb dC _ e rfl) i;exact lI p (a:=⟨(w:Nat)+1+1+1,1,M⟩) (λe=>Ib p k dC _ e rfl) d
 exact⟨⟨_,_,rfl,Rd.ij (keep h.own),Rd.ij (keep z),(h.jg.im.ej.setCell oS _).setCell oS _⟩,t,x⟩
theorem Wt.ik{k:MF}{d:Nat}{t:J}(h:Wt w u v g f k q b c X d t sN):
 Wt w (Ac (Aa u ⟨d,1,M⟩ (sG u 1 1)) (Ak #[k.gV] 2)) v g f k q b c X d t (sG u 1 1)/\Ab (Ac (Aa u ⟨d,1,M⟩ (sG u 1 1)) (Ak #[k.gV] 2)) w 2 1 (sG u 1 1) 1 ([k.gV].flatMap As):=by
 have C:=h.yR;have B:=h.XY;have p:=h.eb.set 1 (sG u 1 1);have s:=lI h.own (a:=⟨d,1,M⟩) (λe=>Ib h.own h.eb dC _ e rfl) (sG u 1 1);have f1:(Aa u ⟨d,1,M⟩ (sG u 1 1)) ⟨X,1,M⟩=K ↑k.gV:=by rw[pL (mS u ⟨d,1,M⟩ _ _ oS)];exact h.fb
 have n:MA w (Aa u ⟨d,1,M⟩ (sG u 1 1)) v g f 28 q b c:=by
  have j:∀{m i:Nat} {x:J},m< ↑w+1+1+1->u ⟨m,i,M⟩=K x->(Aa u ⟨d,1,M⟩ (sG u 1 1)) ⟨m,i,M⟩=K x:= λF D=>by rw[pL (mS u ⟨d,1,M⟩ _ _ oS)];exact D
  have A:=h.jg.im;exact⟨⟨A.ej.setCell oS _,⟨j oM A.prog.c0,j oM A.prog.c1,j oM A.prog.c2,j oM A.prog.c3⟩,⟨j oM A.func.c0,j oM A.func.c1,j oM A.func.c2,j oM A.func.c3⟩,⟨j oM A.ins.c0,j oM A.ins.c1,j oM A.ins.c2,j oM A.ins.c3⟩⟩,h.jg.rb.other oS _⟩
 have z:(Aa u ⟨d,1,M⟩ (sG u 1 1)).heap.size=u.heap.size:=mc _ _ _;generalize Aa u ⟨d,1,M⟩ (sG u 1 1)=y at p s f1 n z⊢;have l:=Aq y (Ak #[k.gV] 2);have r:=AA.new y #[k.gV] 2;rw[z]at r;have E:=n.im.ej.size;exact⟨⟨n.a7 l,Bi l f1,p.a7 l,Aw s l lR,C,B⟩,⟨rfl,.inr ⟨u,1,_,rfl,oM,r,Nat.le_refl _,oX,rfl,rfl⟩⟩⟩
theorem Wn{q:Prop}(h:q:=by rintro u6 HC6;clear hy0' hy1' hz1' fb;have hy0':=HC6.1.eb.cell 0;have hy1':=HC6.1.eb.cell 1;have r0:=HC6.1.jg.rb.cell 0;have r1:=HC6.1.jg.rb.cell 1;have z0:=HC6.1.jg.rb.frozen 0;have z1:=HC6.1.jg.rb.frozen 1;simp only[lE,lC,lF]at hy0' hy1' r0 r1;go_wp2_with fail;rw[HR];obtain⟨he,q0,q1⟩:=HC6.1.done [fq.gV] HC6.2;exact lO (by simp[results,results102,go_sem,q0,q1]) rfl he):q:=h
theorem Wo{q:Prop}(h:q:=by
 have hr':(fq.gV != 0)=false:=by simpa using hr
 have hr2:(fq.gV==0)=true:=by simpa using hr
 have r0:=HC.jg.rb.cell 0;have r1:=HC.jg.rb.cell 1;have z0:=HC.jg.rb.frozen 0;have z1:=HC.jg.rb.frozen 1;simp only[lE,lC,lF]at r0 r1;go_wp2_with fail;rw[HR];obtain⟨he,q0,q1⟩:=HC.done [] (mI _ _ _ _);exact lO (by simp[results,results102,go_sem,q0,q1]) rfl he):q:=h
theorem WV(O N P G F E:J)(f:MF)(fs:List MF)(af:Option Addr)(cf q:Nat)(fq:MF)(b c:Int)(w:Y)(hn:fs.length<=1048576)(hm:fq.small)(hf:JU w (Z af fs cf) fs)(hq:fs[q]?=K fq):
 Ai Ap 102 #[Am #[O,N,Z af fs cf,P],Am #[G,f.gV,F,E],Am #[iZ 28,q,b,c]] w (DX w fq.gU (Ba fq)):=by
 obtain⟨i0,hi,aA,aE,aF⟩:=mN Br;obtain⟨xs,h1,h2,h3⟩:=hf;have am:=(i8.1 hq).1;obtain⟨⟨f',y⟩,D⟩:∃x,xs[q]?=K x:=⟨_,an (by rw[<-mD (f:=Prod.fst),h1];exact am)⟩;have e2:=BF h1 D;rw[hq]at e2;obtain rfl:fq=f':=lP e2;have I:=h3 _ (lA D);simp only[]at I;rcases h2.2 with⟨e0,_⟩|⟨g,o,c',C,T⟩
 . omega
 simp only[lB,mB]at C;obtain⟨rfl,rfl⟩:=C;have L:=Rd.elem Az T q _ D 0 _ rfl;have k2:=Rd.elem Az T q _ D 1 _ rfl;have U:=Rd.elem Az T q _ D 2 _ rfl;have V:=Rd.elem Az T q _ D 3 _ rfl;rw[lJ]at L;obtain⟨yp,yl,yc⟩:=y;simp only[]at L k2 U V;obtain⟨v,i,rfl⟩:∃a c,yp=Z a fq.gU c:=I.1.bW;obtain⟨al,cl,rfl⟩:∃a c,yl=Z a fq.gW c:=I.2.1.bW;obtain⟨l,cc,rfl⟩:∃a c,yc=Z a fq.bO c:=I.2.2.bW;have t:=Av (d5 L (d5 k2 (d5 U (d5 V (d5 I.1 hm.1)))));clear T L k2 U V hq h2 h3 I D e2 h1 hm;generalize fs.length=n at am hn⊢;have aP:(q:Int)<(n:Int):=oM;have E0:Ae _:=MA.of w ⟨O,N,sO g o n cf,P⟩ ⟨G,F,E⟩ f 28 q b c;have hS:Ae (∀w,Ai Ap 62 #[iZ 28] w λe r=>e=Al (Am #[.string ⟨#[99,97,108,108]⟩,iZ 4,iZ 11])/\Ah w w r):= λw=>Cu 28 w
 have aM:=CF;go_enter func102,ntmps102;go_wp2_with fail;refine(hS.o _).mono ?_;rintro e d ⟨rfl,b1⟩;have s:Ae _:=E0.a7 b1;clear E0 b1 hS;have x0:=s.im.ins.c0;have x1:=s.im.ins.c1;have x2:=s.im.ins.c2;have p2:=s.im.prog.c2;have L:d ⟨g,o+q*4,M⟩=K (Z v fq.gU i):=Bi s.im.ej t.1;have k2:d ⟨g,o+q*4+1,M⟩=K ↑fq.gV:=Bi s.im.ej t.2.1
 have U:d ⟨g,o+q*4+2,M⟩=K (Z al fq.gW cl):=Bi s.im.ej t.2.2.1;have V:d ⟨g,o+q*4+3,M⟩=K (Z l fq.bO cc):=Bi s.im.ej t.2.2.2.1;generalize aj:fq.gU.length=h at L t;generalize fq.gW.length=p at U t;generalize fq.bO.length=m at V t;have R:Ae (↑fq.gU=h):=aj
 clear aj;have aQ:(w:Nat)+1+1+1<d.heap.size:=s.rb.lt;have aR:¬(w:Nat)+1+1+1=d.heap.size:=oM;have W:Ae (AA (Ac d (Ak #[Z v h i,fq.gV,Z al p cl,Z l m cc] 76)) d #[Z v h i,fq.gV,Z al p cl,Z l m cc] 76/\Ah d d (Ac d (Ak #[Z v h i,fq.gV,Z al p cl,Z l m cc] 76))):=⟨AA.new _ _ _,Aq _ _⟩
 have Q:Ae (True/\Ah d d (Ac (Ac d (Ak #[Z v h i,fq.gV,Z al p cl,Z l m cc] 76)) (Ak #[] 2))/\Ab (Ac (Ac d (Ak #[Z v h i,fq.gV,Z al p cl,Z l m cc] 76)) (Ak #[] 2)) w 2 1 (Z (K ⟨(d:Nat)+1,0,M⟩) 0 0) 0 []):=by
  have n2:=AA.new (Ac d (Ak #[Z v h i,fq.gV,Z al p cl,Z l m cc] 76)) #[] 2;rw[show(Ac d (Ak #[Z v h i,fq.gV,Z al p cl,Z l m cc] 76)).heap.size= ↑d+1 from sP]at n2
  exact⟨trivial,Ar W.2 lR (Aq _ _),⟨rfl,.inr ⟨(d:Nat)+1,0,#[],rfl,oM,n2,Nat.le_refl _,nZ _,rfl,sP⟩⟩⟩
 cases v with
 | none=>
   have hz:h=0:=by
    rcases t.2.2.2.2.1.2 with⟨e0,_⟩|⟨g',o',ao,C,_⟩
    . exact e0
    cases C
   subst hz;(go_upto_region 21 with fail);refine Ax (λu=>Ae (Wt w u ⟨O,N,Z (K ⟨g,o,M⟩) n cf,P⟩ ⟨G,F,E⟩ f fq q b c d ((d:Nat)+1+1) (Z (K ⟨(d:Nat)+1,0,M⟩) 0 0) (Z M 0 0))) ?_ ?_
   . have B:=Aq (Ac (Ac d (Ak #[Z M 0 i,fq.gV,Z al p cl,Z l m cc] 76)) (Ak #[] 2)) (Ak #[Z (K ⟨(d:Nat)+1,0,M⟩) 0 0,Z M 0 0] 180);have n5:=AA.new (Ac (Ac d (Ak #[Z M 0 i,fq.gV,Z al p cl,Z l m cc] 76)) (Ak #[] 2)) #[Z (K ⟨(d:Nat)+1,0,M⟩) 0 0,Z M 0 0] 180;rw[show(Ac (Ac d (Ak #[Z M 0 i,fq.gV,Z al p cl,Z l m cc] 76)) (Ak #[] 2)).heap.size= ↑d+1+1 from sP]at n5
     exact⟨(s.a7 Q.2.1).a7 B,Bi B (Bi (Aq _ _) (W.1.cell 1)),n5,by rw[R,mL R];exact Aw Q.2.2 B lR,oM,oM⟩
   rintro A HC;have hy0':=HC.eb.cell 0;have hy1':=HC.eb.cell 1;have hz1':=HC.eb.frozen 1;have fb:=HC.fb;have yR:=HC.yR;have XY:=HC.XY;have aI:¬ ↑w+1+1+1=((d:Nat)+1+1):=oM
   have aJ:¬((d:Nat)+1+1)= ↑w+1+1+1:=oM
   simp only[lE,lC,lF]at hy0' hy1';by_cases hr:fq.gV=0
   . have HR:Ae (Ba fq=[]):=lZ hr;exact Wo
   have HR:Ae (Ba fq=[fq.gV]):=lS hr;(have hr':(fq.gV != 0)=true:=by simpa using hr);(have hr2:(fq.gV==0)=false:=by simpa using hr);(have aH:¬((d:Nat)+1+1)=A.heap.size:=by have:=HC.eb.lt;omega);have aG:((d:Nat)+1+1)<A.heap.size:=HC.eb.lt;(go_upto_region 23 with fail);refine Ax (λu=>Ae (Wt w u ⟨O,N,Z (K ⟨g,o,M⟩) n cf,P⟩ ⟨G,F,E⟩ f fq q b c d ((d:Nat)+1+1) (Z (K ⟨(d:Nat)+1,0,M⟩) 0 0) (Z A 1 1)/\u.ownsRow w 2 1 (Z A 1 1) 1 ([fq.gV].flatMap As))) (HC.ik) ?_
   exact Wn
 | some ad=>
   have HO:Ae (Ab (Ac (Ac d (Ak #[Z (K ad) h i,fq.gV,Z al p cl,Z l m cc] 76)) (Ak #[] 2)) w 2 1 (Z (K ⟨(d:Nat)+1,0,M⟩) 0 0) 0 []):=Q.2.2;have HN:Ae (∀j u,(Ad As fq.gU)[j]?=K u->(Ac (Ac d (Ak #[Z (K ad) h i,fq.gV,Z al p cl,Z l m cc] 76)) (Ak #[] 2)) (ad.add j)=K u):= λj u hj=>by
    rcases t.2.2.2.2.1.2 with⟨e0,_⟩|⟨g',o',ao,C,aq⟩
    . (have hl:(Ad As fq.gU).length=0:=by rw[AE As 1 Ay,R.o,e0]);rw[mL hl]at hj;simp at hj
    simp only[lB,lH]at C;obtain⟨rfl,_,_⟩:=C;have:=aq j u hj;rw[CQ];exact Bi Q.2.1 (Bi s.im.ej this)
   have HL:Ae ((Ad As fq.gU).length=h*1/\h<=1048576):=⟨by rw[AE As 1 Ay,R],t.2.2.2.2.2⟩
   go_wp2_with (at_builtin;refine wpList_append_own _ rfl _ _ 29 rfl w 2 i0 (Ag Af 0) 1 8 underlying29 hi aA aE aF rfl dC _ 0 [] rfl HO ad h i (Ad As fq.gU) rfl HL.1 HN ?c1 ?c2 ?c3 ?c4 ?_);(case c1=>intro u hu;obtain⟨z,_,hz⟩:=ni.1 hu;simp[As]at hz;subst hz;rfl);(case c2=>have:=HL.2;unfold maxLen;omega);(case c3=>have:=HL.2;omega);(case c4=>have:=Q.2.1.size;omega);intro v' r ah H au;(obtain⟨X,c2,rfl⟩:∃a c,v'=Z a h c:=by have:=(Rd.ij ah).bW;simpa using this);have S:Ae (Ab r w 2 1 (Z X h c2) h (Ad As fq.gU)/\Ah d d r/\r ⟨d,1,M⟩=K ↑fq.gV/\(d:Nat)< ↑r):=by
    have hb:Ah ((d:Nat)+1) (Ac d (Ak #[Z (K ad) h i,fq.gV,Z al p cl,Z l m cc] 76)) r:=⟨H.os.trans rfl,H.tape.trans rfl,H.output.trans rfl,by have:=H.size;simp at this⊢;omega, λk hk=>by rw[H.block k oT (by simp[Value.ownBlock];omega)];exact(Aq (Ac d (Ak #[Z (K ad) h i,fq.gV,Z al p cl,Z l m cc] 76)) (Ak #[] 2)).block k oT⟩;have aw:(Ac d (Ak #[Z (K ad) h i,fq.gV,Z al p cl,Z l m cc] 76)).heap.size= ↑d+1:=sP
    (have ae:Ah (Ac d (Ak #[Z (K ad) h i,fq.gV,Z al p cl,Z l m cc] 76)).heap.size (Ac d (Ak #[Z (K ad) h i,fq.gV,Z al p cl,Z l m cc] 76)) r:=by rw[aw];exact hb);refine⟨by simpa using ah,Ar W.2 lR ae,?_,by have:=ae.size;omega⟩;have:=(W.1.a7 ae).cell 1;simpa using this
   clear ah H au;(go_upto_region 21 with fail);refine Ax (λu=>Ae (Wt w u ⟨O,N,sO g o n cf,P⟩ ⟨G,F,E⟩ f fq q b c d r (Z X h c2) sN)) ?_ ?_
   . have B:=Aq r (Ak #[Z X h c2,sN] 180);exact⟨(s.a7 S.2.1).a7 B,Bi B S.2.2.1,AA.new _ _ _,by rw[R];exact Aw S.1 B lR,by have:=S.2.2.2;omega,S.2.2.2⟩
   rintro A HC;have hy0':=HC.eb.cell 0;have hy1':=HC.eb.cell 1;have hz1':=HC.eb.frozen 1;have fb:=HC.fb;have yR:=HC.yR;have XY:=HC.XY;have aI:¬(w:Nat)+1+1+1=r.heap.size:=oM;have aJ:¬(r:Nat)= ↑w+1+1+1:=oM
   simp only[lE,lC,lF]at hy0' hy1';by_cases hr:fq.gV=0
   . have HR:Ae (Ba fq=[]):=lZ hr;exact Wo
   have HR:Ae (Ba fq=[fq.gV]):=lS hr;(have hr':(fq.gV != 0)=true:=by simpa using hr);(have hr2:(fq.gV==0)=false:=by simpa using hr);(have aH:¬(r:Nat)=A.heap.size:=by have:=HC.eb.lt;omega);have aG:(r:Nat)<A.heap.size:=HC.eb.lt;(go_upto_region 23 with fail);refine Ax (λu=>Ae (Wt w u ⟨O,N,sO g o n cf,P⟩ ⟨G,F,E⟩ f fq q b c d r (Z X h c2) (sG A 1 1)/\u.ownsRow w 2 1 (sG A 1 1) 1 ([fq.gV].flatMap As))) (HC.ik) ?_
   exact Wn
structure Sc1(w u:Y)(v:VP)(g:VF)(f:MF):Prop where
 sb:AA u w #[v.r,v.k,v.f,v.t,g.p,f.gV,g.l,g.c] 162
 ej:Ah w w u
theorem Sc1.of(w:Y)(v:VP)(g:VF)(f:MF):Sc1 w (Ac w (Ak #[v.r,v.k,v.f,v.t,g.p,f.gV,g.l,g.c] 162)) v g f:=⟨AA.new _ _ _,Aq _ _⟩
theorem Xc{q:Nat}{xs:List Int}{t:Int}(h:Rd w 1 s n (Ad As xs))(d: ↑xs=n)(a:xs[q]?=K t):∃gk ok ck,s=Z (K ⟨gk,ok,M⟩) n ck/\w ⟨gk,ok+q,M⟩=K ↑t:=by
 have c:=(i8.1 a).1;rcases h.2 with⟨e,_⟩|⟨gk,ok,ck,e,b⟩
 . omega
 have:=Rd.elem Ay b q t a 0 _ rfl;rw[mO,lJ]at this;exact⟨gk,ok,ck,e,this⟩
theorem H0(v:VP)(g:VF)(f:MF)(q:Nat)(a:Int)(w:Y)(h:f.small)(d:DF w g f)(b:(f.gU++f.gW)[q]?=K a):
 Ai Ap 135 #[Am #[v.r,v.k,v.f,v.t,g.p,f.gV,g.l,g.c],q] w λe i=>e=Al a/\Ah w w i:=IM v.r v.k v.f v.t g f q a w h d b
end Go.Proofs.YtadcneiiokbofaaGreat
