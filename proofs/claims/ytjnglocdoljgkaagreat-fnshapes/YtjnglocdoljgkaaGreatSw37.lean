import Derived.Test.YtjnglocdoljgkaaGreatSw24
namespace Go.Proofs.YtjnglocdoljgkaaGreat
open Go.ChangeShapes Go.WideShapes Go.ChangeAt Go.RowKit
set_option linter.unusedVariables false
open Go.Value renaming slice → Z,int → Ac
open Option renaming some → K,none → M
open Go renaming Value → J,World → Y,Calls → Ae,TypeId → Af
open Go.RowKit renaming Hid → Aa,Below → Ad
open Go.IntKind renaming i64 → Ab
set_option maxHeartbeats 4000000
set_option maxRecDepth 100000
variable {w u:Y}{g:VF}{f:MF}{v:VP}{q b c:Int}{X:Nat}
theorem AS(b:Ad w w u){a:Addr}{x:J}(h:w.cell? a=K x):u.cell? a=K x:=by rw[b.cell (jC h)];exact h
theorem Hi{base g k n:Nat}{e t:Af}{s:J}{xs:List J}{f:Array J}{fr:Nat×Nat}(h:w.ownsRow base e k s n xs)(l:w.heap[g]?=K (Obj.cells f t fr))(m:e≠t):∀j,s.ownBlock=K j->j≠g:=by
 intro j b i;subst i;rcases h.2 with⟨rfl,_⟩|⟨r,p,q,rfl,_,a,_⟩
 . cases b
 simp only[Value.ownBlock,kK]at b;subst b;rw[l]at a;simp only[kK,mh]at a;exact m a.2.1.symm
structure UG(w u:World)(v:VP)(g:VF)(f fq:MF)(q b c:Int)(X Y:Nat)(tv gv:J):Prop where
 iM:LH w u v g f 28 q b c
 fb:u.cell? ⟨X,1,M⟩=K (Ac Ab fq.gz)
 eb:Ar u Y #[tv,gv] 98
 own:u.ownsRow w 2 1 tv fq.d5 (fq.d5.flatMap Ah)
 yR: ↑w+1+1+1<Y
 XY:X<Y
theorem UG.done{n:MF}{y:Nat}{j i:J}(h:UG w u v g f n q b c X y j i)(gs:List Int)(z:u.ownsRow w 2 1 i gs (gs.flatMap Ah)):
 DH w n.d5 gs (.returned (.agg #[j,i])) ((u.setCell ⟨(w:Nat)+1+1+1,0,M⟩ j).setCell ⟨(w:Nat)+1+1+1,1,M⟩ i)/\((u.setCell ⟨(w:Nat)+1+1+1,0,M⟩ j).setCell ⟨(w:Nat)+1+1+1,1,M⟩ i).cell? ⟨(w:Nat)+1+1+1,0,M⟩=K j/\((u.setCell ⟨(w:Nat)+1+1+1,0,M⟩ j).setCell ⟨(w:Nat)+1+1+1,1,M⟩ i).cell? ⟨(w:Nat)+1+1+1,1,M⟩=K i:=by
 have k:=h.iM.rb.set 0 j;have l:=k.set 1 i;have r:=l.cell 0;have t:=l.cell 1;simp only[kV,lI,lM,kL,jt,kI]at r t;have keep:∀{s:J} {m:Nat} {xs:List J},u.ownsRow w 2 1 s m xs->((u.setCell ⟨(w:Nat)+1+1+1,0,M⟩ j).setCell ⟨(w:Nat)+1+1+1,1,M⟩ i).ownsRow w 2 1 s m xs:= λp=>by have h1:=kO p (a:=⟨(w:Nat)+1+1+1,0,M⟩) (λe=>Hi p h.iM.rb dC _ e rfl) j;exact kO h1 (a:=⟨(w:Nat)+1+1+1,1,M⟩) (λe=>Hi h1 k dC _ e rfl) i
 exact⟨⟨_,_,rfl,Rd.gM (keep h.own),Rd.gM (keep z),(h.iM.gV.gG.setCell oS _).setCell oS _⟩,r,t⟩
theorem UG.im{l:MF}{j:Nat}{y:J}(h:UG w u v g f l q b c X j y (Z M 0 0)):
 UG w ((u.setCell ⟨j,1,M⟩ (Z u 1 1)).alloc (.cells #[Ac Ab l.gz] 2)) v g f l q b c X j y (Z u 1 1)/\((u.setCell ⟨j,1,M⟩ (Z u 1 1)).alloc (.cells #[Ac Ab l.gz] 2)).ownsRow w 2 1 (Z u 1 1) 1 ([l.gz].flatMap Ah):=by
 have D:=h.yR;have C:=h.XY;have r:=h.eb.set 1 (Z u 1 1);have t:=kO h.own (a:=⟨j,1,M⟩) (λe=>Hi h.own h.eb dC _ e rfl) (Z u 1 1);have f1:(u.setCell ⟨j,1,M⟩ (Z u 1 1)).cell? ⟨X,1,M⟩=K (Ac Ab l.gz):=by rw[nS (lZ u ⟨j,1,M⟩ _ _ oS)];exact h.fb
 have p:LH w (u.setCell ⟨j,1,M⟩ (Z u 1 1)) v g f 28 q b c:=by
  have k:∀{n i:Nat} {x:J},n< ↑w+1+1+1->u.cell? ⟨n,i,M⟩=K x->(u.setCell ⟨j,1,M⟩ (Z u 1 1)).cell? ⟨n,i,M⟩=K x:= λG E=>by rw[nS (lZ u ⟨j,1,M⟩ _ _ oS)];exact E
  have A:=h.iM.gV;exact⟨⟨A.gG.setCell oS _,⟨k oM A.prog.c0,k oM A.prog.c1,k oM A.prog.c2,k oM A.prog.c3⟩,⟨k oM A.func.c0,k oM A.func.c1,k oM A.func.c2,k oM A.func.c3⟩,⟨k oM A.ins.c0,k oM A.ins.c1,k oM A.ins.c2,k oM A.ins.c3⟩⟩,h.iM.rb.other oS _⟩
 have B:(u.setCell ⟨j,1,M⟩ (Z u 1 1)).heap.size=u.heap.size:=mB _ _ _;generalize u.setCell ⟨j,1,M⟩ (Z u 1 1)=z at r t f1 p B⊢;have m:=Ag z (.cells #[Ac Ab l.gz] 2);have s:=Ar.new z #[Ac Ab l.gz] 2;rw[B]at s;have F:=p.gV.gG.size;exact⟨⟨p.bM m,AS m f1,r.bM m,Am t m lR,D,C⟩,⟨rfl,.inr ⟨u,1,_,rfl,oM,s,Nat.le_refl _,oX,rfl,rfl⟩⟩⟩
theorem Uz{q:Prop}(h:q:=by rintro u6 HC6;clear hy0' hy1' hz1' fb;have hy0':=HC6.o.1.eb.cell 0;have hy1':=HC6.o.1.eb.cell 1;have r0:=HC6.o.1.iM.rb.cell 0;have r1:=HC6.o.1.iM.rb.cell 1;have z0:=HC6.o.1.iM.rb.frozen 0;have z1:=HC6.o.1.iM.rb.frozen 1;simp only[kL,jt,kI]at hy0' hy1' r0 r1;go_wp2_with fail;rw[HR.o];obtain⟨he,q0,q1⟩:=HC6.o.1.done [fq.gz] HC6.o.2;exact kY (by simp[results,Tryz.results41,go_sem,q0,q1]) rfl he):q:=h
theorem UB{q:Prop}(h:q:=by
 have hr':(fq.gz != 0)=false:=by simpa using hr
 have hr2:(fq.gz==0)=true:=by simpa using hr
 have r0:=HC.o.iM.rb.cell 0;have r1:=HC.o.iM.rb.cell 1;have z0:=HC.o.iM.rb.frozen 0;have z1:=HC.o.iM.rb.frozen 1;simp only[kL,jt,kI]at r0 r1;go_wp2_with fail;rw[HR.o];obtain⟨he,q0,q1⟩:=HC.o.done [] (lq _ _ _ _);exact kY (by simp[results,Tryz.results41,go_sem,q0,q1]) rfl he):q:=h
theorem Vp(vr vk vt S R Q:J)(f:MF)(O:List MF)(af:Option Addr)(cf q:Nat)(fq:MF)(b c:Int)(w:Y)(hn:O.length<=1048576)(hm:fq.small)(hf:NX w (Z af O cf) O)(hq:O[q]?=K fq):
 Ae Tryz.prog 41 #[.agg #[vr,vk,Z af O cf,vt],.agg #[S,Ac Ab f.gz,R,Q],.agg #[Ac Ab 28,Ac Ab q,Ac Ab b,Ac Ab c]] w (DH w fq.d5 (AV fq)):=by
 obtain⟨i0,hi,aA,aD,aE⟩:=lU Bt;obtain⟨xs,h1,h2,h3⟩:=hf;have am:=(iV.1 hq).1;obtain⟨⟨f',y⟩,N⟩:∃x,xs[q]?=K x:=⟨_,an (by rw[<-kW (f:=Prod.fst),h1];exact am)⟩;have e2:=CT h1 N;rw[hq]at e2;obtain rfl:fq=f':=kN e2;have W:=h3 _ (i8 N);simp only[]at W;rcases h2.2 with⟨e0,_⟩|⟨g,o,c',L,hc⟩
 . omega
 simp only[jc,lO]at L;obtain⟨rfl,rfl⟩:=L;have k1:=Rd.elem Aq hc q _ N 0 _ rfl;have k2:=Rd.elem Aq hc q _ N 1 _ rfl;have k3:=Rd.elem Aq hc q _ N 2 _ rfl;have k4:=Rd.elem Aq hc q _ N 3 _ rfl;rw[kZ]at k1;obtain⟨yp,yl,yc⟩:=y;simp only[]at k1 k2 k3 k4;obtain⟨F,p,rfl⟩:∃a c,yp=Z a fq.d5 c:=W.1.fu;obtain⟨al,cl,rfl⟩:∃a c,yl=Z a fq.en c:=W.2.1.fu;obtain⟨s,t,rfl⟩:∃a c,yc=Z a fq.ch c:=W.2.2.fu;have G:Aa (w.cell? ⟨g,o+q*4,M⟩=K (Z F fq.d5 p)/\w.cell? ⟨g,o+q*4+1,M⟩=K (Ac Ab fq.gz)/\w.cell? ⟨g,o+q*4+2,M⟩=K (Z al fq.en cl)/\w.cell? ⟨g,o+q*4+3,M⟩=K (Z s fq.ch t)/\Rd w 1 (Z F fq.d5 p) fq.d5 (fq.d5.flatMap Ah)/\fq.d5.length<=1048576):=⟨k1,k2,k3,k4,W.1,hm.1⟩
 clear hc k1 k2 k3 k4 hq h2 h3 W N e2 h1 hm;generalize O.length=n at am hn⊢;have aM:(q:Int)<(n:Int):=oM;have E0:Aa _:=LH.of w ⟨vr,vk,Z (K ⟨g,o,M⟩) n cf,vt⟩ ⟨S,R,Q⟩ f 28 q b c;have hS:Aa (∀w,Ae Tryz.prog 71 #[Ac Ab 28] w λe C=>e=.returned (.agg #[.string ⟨#[99,97,108,108]⟩,Ac Ab 4,Ac Ab 11])/\Ad w w C):= λw=>CG 28 w
 have aJ:=CS;go_enter Tryz.func41,Tryz.ntmps41;go_wp2_with fail;refine(hS.o _).mono ?_;rintro e i ⟨rfl,b1⟩;have D:Aa _:=E0.o.bM b1;clear E0 b1 hS;have x0:=D.o.gV.ins.c0;have x1:=D.o.gV.ins.c1;have x2:=D.o.gV.ins.c2;have p2:=D.o.gV.prog.c2;have k1:i.cell? ⟨g,o+q*4,M⟩=K (Z F fq.d5 p):=AS D.o.gV.gG G.o.1;have k2:i.cell? ⟨g,o+q*4+1,M⟩=K (Ac Ab fq.gz):=AS D.o.gV.gG G.o.2.1;have k3:i.cell? ⟨g,o+q*4+2,M⟩=K (Z al fq.en cl):=AS D.o.gV.gG G.o.2.2.1;have k4:i.cell? ⟨g,o+q*4+3,M⟩=K (Z s fq.ch t):=AS D.o.gV.gG G.o.2.2.2.1;generalize aj:fq.d5.length=l at k1 G;generalize fq.en.length=B at k3 G;generalize fq.ch.length=A at k4 G;have a8:Aa (↑fq.d5=l):=aj
 clear aj;have aP:(w:Nat)+1+1+1<i.heap.size:=D.o.rb.lt;have aQ:¬(w:Nat)+1+1+1=i.heap.size:=oM;have F1:Aa (Ar (i.alloc (.cells #[Z F l p,Ac Ab fq.gz,Z al B cl,Z s A t] 51)) i #[Z F l p,Ac Ab fq.gz,Z al B cl,Z s A t] 51/\Ad i i (i.alloc (.cells #[Z F l p,Ac Ab fq.gz,Z al B cl,Z s A t] 51))):=⟨Ar.new _ _ _,Ag _ _⟩
 have F2:Aa (True/\Ad i i ((i.alloc (.cells #[Z F l p,Ac Ab fq.gz,Z al B cl,Z s A t] 51)).alloc (.cells #[] 2))/\((i.alloc (.cells #[Z F l p,Ac Ab fq.gz,Z al B cl,Z s A t] 51)).alloc (.cells #[] 2)).ownsRow w 2 1 (Z (K ⟨(i:Nat)+1,0,M⟩) 0 0) 0 []):=by
  have n2:=Ar.new (i.alloc (.cells #[Z F l p,Ac Ab fq.gz,Z al B cl,Z s A t] 51)) #[] 2;rw[show(i.alloc (.cells #[Z F l p,Ac Ab fq.gz,Z al B cl,Z s A t] 51)).heap.size= ↑i+1 from sP]at n2
  exact⟨trivial,Ai F1.o.2 lR (Ag _ _),⟨rfl,.inr ⟨(i:Nat)+1,0,#[],rfl,oM,n2,Nat.le_refl _,mu _,rfl,sP⟩⟩⟩
 cases F with
 | none=>
   have hz:l=0:=by
    rcases G.o.2.2.2.2.1.2 with⟨e0,_⟩|⟨g',o',ao,L,_⟩
    . exact e0
    cases L
   subst hz;(go_upto_region 21 with fail);refine An (λu=>Aa (UG w u ⟨vr,vk,Z (K ⟨g,o,M⟩) n cf,vt⟩ ⟨S,R,Q⟩ f fq q b c i ((i:Nat)+1+1) (Z (K ⟨(i:Nat)+1,0,M⟩) 0 0) (Z M 0 0))) ?_ ?_
   . have I:=Ag ((i.alloc (.cells #[Z M 0 p,Ac Ab fq.gz,Z al B cl,Z s A t] 51)).alloc (.cells #[] 2)) (.cells #[Z (K ⟨(i:Nat)+1,0,M⟩) 0 0,Z M 0 0] 98);have n5:=Ar.new ((i.alloc (.cells #[Z M 0 p,Ac Ab fq.gz,Z al B cl,Z s A t] 51)).alloc (.cells #[] 2)) #[Z (K ⟨(i:Nat)+1,0,M⟩) 0 0,Z M 0 0] 98;rw[show((i.alloc (.cells #[Z M 0 p,Ac Ab fq.gz,Z al B cl,Z s A t] 51)).alloc (.cells #[] 2)).heap.size= ↑i+1+1 from sP]at n5
     exact⟨(D.o.bM F2.o.2.1).bM I,AS I (AS (Ag _ _) (F1.o.1.cell 1)),n5,by rw[a8.o,lP a8.o];exact Am F2.o.2.2 I lR,oM,oM⟩
   rintro H HC;have hy0':=HC.o.eb.cell 0;have hy1':=HC.o.eb.cell 1;have hz1':=HC.o.eb.frozen 1;have fb:=HC.o.fb;have yR:=HC.o.yR;have XY:=HC.o.XY;have aH:¬ ↑w+1+1+1=((i:Nat)+1+1):=oM
   have aI:¬((i:Nat)+1+1)= ↑w+1+1+1:=oM
   simp only[kL,jt,kI]at hy0' hy1';by_cases hr:fq.gz=0
   . have HR:Aa (AV fq=[]):=lS hr;exact UB
   have HR:Aa (AV fq=[fq.gz]):=lE hr;(have hr':(fq.gz != 0)=true:=by simpa using hr);(have hr2:(fq.gz==0)=false:=by simpa using hr);(have aG:¬((i:Nat)+1+1)=H.heap.size:=by have:=HC.o.eb.lt;omega);have aF:((i:Nat)+1+1)<H.heap.size:=HC.o.eb.lt;(go_upto_region 23 with fail);refine An (λu=>Aa (UG w u ⟨vr,vk,Z (K ⟨g,o,M⟩) n cf,vt⟩ ⟨S,R,Q⟩ f fq q b c i ((i:Nat)+1+1) (Z (K ⟨(i:Nat)+1,0,M⟩) 0 0) (Z H 1 1)/\u.ownsRow w 2 1 (Z H 1 1) 1 ([fq.gz].flatMap Ah))) (HC.o.im) ?_
   exact Uz
 | some ad=>
   have HO:Aa (((i.alloc (.cells #[Z (K ad) l p,Ac Ab fq.gz,Z al B cl,Z s A t] 51)).alloc (.cells #[] 2)).ownsRow w 2 1 (Z (K ⟨(i:Nat)+1,0,M⟩) 0 0) 0 []):=F2.o.2.2;have HN:Aa (∀j u,(fq.d5.flatMap Ah)[j]?=K u->((i.alloc (.cells #[Z (K ad) l p,Ac Ab fq.gz,Z al B cl,Z s A t] 51)).alloc (.cells #[] 2)).cell? (ad.add j)=K u):= λj u hj=>by
    rcases G.o.2.2.2.2.1.2 with⟨e0,_⟩|⟨g',o',ao,L,aq⟩
    . (have hl:(fq.d5.flatMap Ah).length=0:=by rw[Au Ah 1 Ao,a8.o,e0]);rw[lP hl]at hj;simp at hj
    simp only[jc,kK]at L;obtain⟨rfl,_,_⟩:=L;have:=aq j u hj;rw[Da];exact AS F2.o.2.1 (AS D.o.gV.gG this)
   have HL:Aa ((fq.d5.flatMap Ah).length=l*1/\l<=1048576):=⟨by rw[Au Ah 1 Ao,a8.o],G.o.2.2.2.2.2⟩
   go_wp2_with (at_builtin;refine wpList_append_own _ rfl _ _ 36 rfl w 2 i0 (Ac Ab 0) 1 8 Tryz.underlying36 hi aA aD aE rfl dC _ 0 [] rfl HO.o ad l p (fq.d5.flatMap Ah) rfl HL.o.1 HN.o ?c1 ?c2 ?c3 ?c4 ?_);(case c1=>intro u hu;obtain⟨z,_,hz⟩:=mN.1 hu;simp[Ah]at hz;subst hz;rfl);(case c2=>have:=HL.o.2;unfold maxLen;omega);(case c3=>have:=HL.o.2;omega);(case c4=>have:=F2.o.2.1.size;omega);intro v' C ah T au;(obtain⟨a2,c2,rfl⟩:∃a c,v'=Z a l c:=by have:=(Rd.gM ah).fu;simpa using this);have HW:Aa (C.ownsRow w 2 1 (Z a2 l c2) l (fq.d5.flatMap Ah)/\Ad i i C/\C.cell? ⟨i,1,M⟩=K (Ac Ab fq.gz)/\(i:Nat)< ↑C):=by
    have hb:Ad ((i:Nat)+1) (i.alloc (.cells #[Z (K ad) l p,Ac Ab fq.gz,Z al B cl,Z s A t] 51)) C:=⟨T.os.trans rfl,T.tape.trans rfl,T.output.trans rfl,by have:=T.size;simp at this⊢;omega, λk hk=>by rw[T.block k oT (by simp[Value.ownBlock];omega)];exact(Ag (i.alloc (.cells #[Z (K ad) l p,Ac Ab fq.gz,Z al B cl,Z s A t] 51)) (.cells #[] 2)).block k oT⟩;have aw:(i.alloc (.cells #[Z (K ad) l p,Ac Ab fq.gz,Z al B cl,Z s A t] 51)).heap.size= ↑i+1:=sP
    (have ae:Ad (i.alloc (.cells #[Z (K ad) l p,Ac Ab fq.gz,Z al B cl,Z s A t] 51)).heap.size (i.alloc (.cells #[Z (K ad) l p,Ac Ab fq.gz,Z al B cl,Z s A t] 51)) C:=by rw[aw];exact hb);refine⟨by simpa using ah,Ai F1.o.2 lR ae,?_,by have:=ae.size;omega⟩;have:=(F1.o.1.bM ae).cell 1;simpa using this
   clear ah T au;(go_upto_region 21 with fail);refine An (λu=>Aa (UG w u ⟨vr,vk,Z (K ⟨g,o,M⟩) n cf,vt⟩ ⟨S,R,Q⟩ f fq q b c i C (Z a2 l c2) (Z M 0 0))) ?_ ?_
   . have I:=Ag C (.cells #[Z a2 l c2,Z M 0 0] 98);exact⟨(D.o.bM HW.o.2.1).bM I,AS I HW.o.2.2.1,Ar.new _ _ _,by rw[a8.o];exact Am HW.o.1 I lR,by have:=HW.o.2.2.2;omega,HW.o.2.2.2⟩
   rintro H HC;have hy0':=HC.o.eb.cell 0;have hy1':=HC.o.eb.cell 1;have hz1':=HC.o.eb.frozen 1;have fb:=HC.o.fb;have yR:=HC.o.yR;have XY:=HC.o.XY;have aH:¬(w:Nat)+1+1+1=C.heap.size:=oM;have aI:¬(C:Nat)= ↑w+1+1+1:=oM
   simp only[kL,jt,kI]at hy0' hy1';by_cases hr:fq.gz=0
   . have HR:Aa (AV fq=[]):=lS hr;exact UB
   have HR:Aa (AV fq=[fq.gz]):=lE hr;(have hr':(fq.gz != 0)=true:=by simpa using hr);(have hr2:(fq.gz==0)=false:=by simpa using hr);(have aG:¬(C:Nat)=H.heap.size:=by have:=HC.o.eb.lt;omega);have aF:(C:Nat)<H.heap.size:=HC.o.eb.lt;(go_upto_region 23 with fail);refine An (λu=>Aa (UG w u ⟨vr,vk,Z (K ⟨g,o,M⟩) n cf,vt⟩ ⟨S,R,Q⟩ f fq q b c i C (Z a2 l c2) (Z H 1 1)/\u.ownsRow w 2 1 (Z H 1 1) 1 ([fq.gz].flatMap Ah))) (HC.o.im) ?_
   exact Uz
end Go.Proofs.YtjnglocdoljgkaaGreat
