import Derived.Test.YtadcneiiokbofaaGreatBo46
import Derived.Test.YtadcneiiokbofaaGreatBo51
namespace Go.Proofs.YtadcneiiokbofaaGreat
open Go.ChangeShapes Go.WideShapes Go.ChangeAt Go.RowKit Go.Proofs.Tryz
set_option linter.unusedVariables false
open Go.Value renaming slice → Z,int → Ag,agg → Am
open Option renaming some → K,none → M
open Go renaming Value → J,World → Y,Calls → Ai,TypeId → Aj
open Go.RowKit renaming Hid → Ae,Below → Ah
open Go.IntKind renaming i64 → Af
open Go.Obj renaming cells → Ak
open Go.Ending renaming returned → Al
open Go.Proofs.Tryz renaming prog → Ap
open Go.World renaming setCell → Aa,ownsRow → Ab,alloc → Ac
open List renaming flatMap → Ad
set_option maxHeartbeats 16000000
set_option maxRecDepth 100000
variable {a:Addr}{j:Nat}{t:Aj}{P:Array J}{L:List (J×List Int)}{p:MP}
theorem VR(u:Y)(e:Aj)(k:Nat):Ab (Ac u (Ak #[] e)) u e k (Z u 0 0) 0 []:=⟨sP,.inr ⟨u,0,#[],rfl,Nat.le_refl _,oz _ _,Nat.le_refl _,nZ _,sP,sP⟩⟩
theorem O4(z:Int):∀u∈[Ag Af z],u.oneCell'=true:= λu a=>by simp at a;subst a;rfl
theorem Vd(a:List Int)(z:Int):Ad As a++[Ag Af z]=Ad As (a++[z]):=by rw[mH];rfl
theorem Si(w:Y)(a:List J)(t:Aj):∀j u,a[j]?=K u->(Ac w (Ak a.toArray t)) ((⟨w,0,M⟩:Addr).add j)=K u:= λj u b=>by rw[CQ,mQ,(AA.new w a.toArray t).cell j];simpa using b
structure Bd(w u0 u:Y)(X gc cc gd cd n:Nat)(C D:List Int):Prop where
 cl: ↑C=n
 c:Ab u w 2 1 (sG gc n cc) n (Ad As C)
 dl: ↑D=n
 d:Ab u w 2 1 (sG gd n cd) n (Ad As D)
 ne:gc≠gd
 ej:Ah w w u
 up:gc<X/\gd<X/\ ↑w<=X
 xs:X<= ↑u
 fr:∀b,b<X->b≠gc->b≠gd->u.heap[b]?=u0.heap[b]?
section
variable {w u0 u u':Y} {X gc cc gd cd n:Nat} {C D:List Int}
theorem Bd.a7(h:Bd w u0 u X gc cc gd cd n C D)(a:Ah u u u'):Bd w u0 u' X gc cc gd cd n C D:=⟨h.cl,Aw h.c a lR,h.dl,Aw h.d a lR,h.ne,Ar h.ej lR a,h.up,lQ h.xs a.size, λb e f g=>by have:=h.xs;rw[a.block b oM];exact h.fr b e f g⟩
theorem Bd.set(h:Bd w u0 u X gc cc gd cd n C D)(j:X<=a.block)(V:J):Bd w u0 (u.setCell a V) X gc cc gd cd n C D:=by have:=h.up;exact⟨h.cl,lI h.c (a:=a) (λe=>by simp only[Value.ownBlock,lH]at e;omega) V,h.dl,lI h.d (a:=a) (λe=>by simp only[Value.ownBlock,lH]at e;omega) V,h.ne,h.ej.setCell oM _,h.up,by rw[mc];exact h.xs, λb f g i=>by rw[mS u a b V oM];exact h.fr b f g i⟩
theorem Bd.cost(h:Bd w u0 u X gc cc gd cd n C D)(k:j<n):(∃z:Int,u ⟨gc,j,M⟩=K ↑z)/\u.frozen? ⟨gc,j,M⟩=false/\∀z:Int,Bd w u0 (Aa u ⟨gc,j,M⟩ z) X gc cc gd cd n (C.set j z) D/\(Aa u ⟨gc,j,M⟩ z) ⟨gc,j,M⟩=K ↑z:=by have c1:=h.cl;have a:=ms h.c j oM;rw[Di (an oM)]at a;refine⟨⟨_,a⟩,h.c.frozenAt j, λz=>⟨?_,pN u _ _ a⟩⟩;have f:=(nC h.c j z).1;rw[Ht]at f;exact⟨by rw[mZ];exact c1,f,h.dl,Bn h.d h.ne.symm,h.ne,h.ej.setCell (AD h.c).1 _,h.up,by rw[mc];exact h.xs, λb g e i=>by rw[mS u ⟨gc,j,M⟩ b _ e];exact h.fr b g e i⟩
theorem Bd.depth(h:Bd w u0 u X gc cc gd cd n C D)(l:j<n):(∃z:Int,u ⟨gd,j,M⟩=K ↑z)/\u.frozen? ⟨gd,j,M⟩=false/\∀z:Int,Bd w u0 (Aa u ⟨gd,j,M⟩ z) X gc cc gd cd n C (D.set j z)/\(Aa u ⟨gd,j,M⟩ z) ⟨gd,j,M⟩=K ↑z:=by have g:=h.dl;have a:=ms h.d j oM;rw[Di (an oM)]at a;refine⟨⟨_,a⟩,h.d.frozenAt j, λz=>⟨?_,pN u _ _ a⟩⟩;have f:=(nC h.d j z).1;rw[Ht]at f;exact⟨h.cl,Bn h.c h.ne,by rw[mZ];exact g,f,h.ne,h.ej.setCell (AD h.d).1 _,h.up,by rw[mc];exact h.xs, λb i k e=>by rw[mS u ⟨gd,j,M⟩ b _ e];exact h.fr b i k e⟩
theorem Bd.re(h:Bd w u0 u X gc cc gd cd n C D):Bd w u u u gc cc gd cd n C D:=⟨h.cl,h.c,h.dl,h.d,h.ne,h.ej,⟨(h.c.lt gc rfl).2,(h.d.lt gd rfl).2,h.ej.size⟩,Nat.le_refl _, λ_ _ _ _=>rfl⟩
end
def YP(p:MP)(q:Nat)(C D:List Int)(w u0:Y)(X gc cc gd cd n:Nat)(e:Ending)(u':Y):Prop:=∃(c f a v d:Int) (b g:List Int),e=Al (Am #[c,f,a,sN,sN])/\MD p q C D c a v d/\(c≠0->f=(q:Int))/\(c=0->b=C.set q v/\g=D.set q d)/\Bd w u0 u' X gc cc gd cd n b g
theorem BE{w:Y}{b:Nat}{a0 a c d e:J}(h:AA w b #[a0,a,c,d,e] t):w b=K a0/\w ⟨b,1,M⟩=K a/\w ⟨b,2,M⟩=K c/\w ⟨b,3,M⟩=K d/\w ⟨b,4,M⟩=K e:=⟨h.cell 0,h.cell 1,h.cell 2,h.cell 3,h.cell 4⟩
theorem Ha{w:Y}{b:Nat}{a:Array J}(h:AA w b a t):w.frozen? b=false/\w.frozen? ⟨b,1,M⟩=false/\w.frozen? ⟨b,2,M⟩=false/\w.frozen? ⟨b,3,M⟩=false/\w.frozen? ⟨b,4,M⟩=false:=⟨h.frozen 0,h.frozen 1,h.frozen 2,h.frozen 3,h.frozen 4⟩
theorem Bd.jr{w u0 U:Y}{X gc cc gd cd n:Nat}{C D:List Int}(h:Bd w u0 U X gc cc gd cd n C D)(b c d f g:J):Bd w u0 (Aa (Aa (Aa (Aa (Aa U ⟨X+1,0,M⟩ b) ⟨X+1,1,M⟩ c) ⟨X+1,2,M⟩ d) ⟨X+1,3,M⟩ f) ⟨X+1,4,M⟩ g) X gc cc gd cd n C D:=
 have e:X<=X+1:=oM
 ((((h.set (a:=⟨X+1,0,M⟩) e b).set (a:=⟨X+1,1,M⟩) e c).set (a:=⟨X+1,2,M⟩) e d).set (a:=⟨X+1,3,M⟩) e f).set (a:=⟨X+1,4,M⟩) e g
structure UG(w u0 U:Y)(X gc cc gd cd n:Nat)(C D:List Int)(P4:Array J):Prop where
 bd:Bd w u0 U X gc cc gd cd n C D
 pb:AA U X P4 37
 rb:AA U (X+1) #[iZ 0,iZ 0,iZ 0,sN,sN] 31
theorem UG.a7{w u0 U c:Y}{X gc cc gd cd n:Nat}{C D:List Int}{b:Array J}(h:UG w u0 U X gc cc gd cd n C D b)(a:Ah U U c):UG w u0 c X gc cc gd cd n C D b:=⟨h.bd.a7 a,h.pb.a7 a,h.rb.a7 a⟩
theorem Te(v:VP)(p:MP)(q:Nat)(X gc cc gd cd:Nat)(C D:List Int)(w u:Y)(hX: ↑u=X)(hs:p.small)(hw:p.wf)(bR:A6 p 0)(h:Dm w v p)(hq:q< ↑p.aD)(hB:Bd w u u X gc cc gd cd p.aD C D):
 Ai Ap 19 #[Am #[v.r,v.k,v.f,v.t],q,sG gc p.aD cc,sG gd p.aD cd] u (YP p q C D w u X gc cc gd cd p.aD):=by
 obtain⟨dh,hi,de,df,dg⟩:=mN Br;obtain⟨R,T,O,P,L,t3,f1,f3,rfl⟩:=h.sl;obtain⟨f,hf⟩:∃f,p.aD[q]?=K f:=⟨_,an hq⟩;obtain⟨gk,ok,ck,bJ,g,bu,m0,m1,m2,m3⟩:=Hr h.aD hf;simp only[lB,mB]at bJ;obtain⟨rfl,rfl⟩:=bJ;obtain⟨g1,g3,g4,g6,g7,g9,rfl⟩:=Ec bu;have bS:=hs.func f (lA hf);have dy:(q:Int)<(p.aD:Int):=oM;have dd:=hs.aD;have dz:=hs.e8;have H:Ae (p.small/\p.wf/\A6 p 0/\Dm w ⟨Z R p.aC T,Z O p.dk P,sO gk ok p.aD f3,Z L p.e8 t3⟩ p/\p.aD[q]?=K f/\f.small/\Rd w 4 (Z g7 f.bO g9) f.bO (f.bO.flatMap MI.cells)/\Dv (q:Int)):=⟨hs,hw,bR,h,hf,bS,bu.2.2,UL oM oM⟩
 simp only[]at m3;have M3:=Av m3;have dA:=hB.up;have E0:Ae (UG w u (Ac (Ac u (Ak #[Z R p.aC T,Z O p.dk P,sO gk ok p.aD f3,Z L p.e8 t3] 37)) (Ak #[iZ 0,iZ 0,iZ 0,sN,sN] 31)) X gc cc gd cd p.aD C D #[Z R p.aC T,Z O p.dk P,sO gk ok p.aD f3,Z L p.e8 t3]):=by have e:=Bu u #[Z R p.aC T,Z O p.dk P,sO gk ok p.aD f3,Z L p.e8 t3] #[iZ 0,iZ 0,iZ 0,sN,sN] 37 31;rw[hX]at e;exact⟨hB.a7 (hX▸e.2.2),e.1,e.2.1⟩
 clear hs hw bR h hf bS bu hB m0 m1 m2 m3;go_enter func19,ntmps19;go_upto_region 1 with fail
 refine Ax (λU=>Ae (UG w u U X gc cc gd cd p.aD C D #[Z R p.aC T,Z O p.dk P,sO gk ok p.aD f3,Z L p.e8 t3])) E0 ?_;rintro U E1;clear E0;obtain⟨p0,p1,p2,p3⟩:=A7 E1.pb;have m3:=Au E1.bd.ej M3;go_wp2_with fail;refine(Fj (Z g7 f.bO g9) f.bO U H.2.2.2.2.2.1.2.2 (Rd.a7 H.2.2.2.2.2.2.1 E1.bd.ej lR)).mono ?_;rintro e u2 ⟨r,vb,vo,vi,vl,rfl,bq,bt,F⟩;obtain⟨v1,c1,v2,c2,v3,c3,v4,c4,rfl,rfl,rfl,rfl⟩:=JH bt;have aF:=Av bq;have dx:r.gX.length<=1024:=(GU bq).1;have b2:=Aq u2 (Ak #[r.bO,r.at_,Z v1 r.a8 c1,Z v2 r.gY c2,Z v3 r.ig c3,Z v4 r.gX c4] 84);have E2:=Av (d5 ((E1.a7 F).a7 b2) (d5 ((AA.new _ _ _):AA (Ac u2 (Ak #[r.bO,r.at_,Z v1 r.a8 c1,Z v2 r.gY c2,Z v3 r.ig c3,Z v4 r.gX c4] 84)) u2 #[r.bO,r.at_,Z v1 r.a8 c1,Z v2 r.gY c2,Z v3 r.ig c3,Z v4 r.gX c4] 84) (bt.iE b2 lR)));clear bq bt F b2 E1 p0 p1 p2 p3 m3;go_upto_region 2 with fail
 generalize u2.heap.size=FB at E2⊢;refine Ax (λU=>Ae (UG w u U X gc cc gd cd p.aD C D #[Z R p.aC T,Z O p.dk P,sO gk ok p.aD f3,Z L p.e8 t3]/\AA U FB #[r.bO,r.at_,Z v1 r.a8 c1,Z v2 r.gY c2,Z v3 r.ig c3,Z v4 r.gX c4] 84/\DQ U (Z v1 r.a8 c1) (Z v2 r.gY c2) (Z v3 r.ig c3) (Z v4 r.gX c4) r)) E2 ?_
 rintro U E3;clear E2;clear u2;obtain⟨y0,y1,y2,y3,y4,y5⟩:=Eg E3.2.1;by_cases aJ:r.bO=0;case neg=>
  have dm:(r.bO != 0)=true:=by simpa using aJ
  obtain⟨a0,x,b,A,B⟩:=BE E3.1.rb;obtain⟨ao,aq,au,aw,aA⟩:=Ha E3.1.rb;go_wp2_with fail;have G:Ae _:=((((E3.1.rb.set 0 (iZ 3)).set 1 q).set 2 r.at_).set 3 sN).set 4 sN;simp only[lM,lU,lX]at G;clear a0 x b A B;obtain⟨a0,x,b,A,B⟩:=BE G;exact lO (v:=Am #[iZ 3,q,r.at_,sN,sN]) (by simp[results,results19,go_sem,a0,x,b,A,B]) rfl ⟨3,(q:Int),r.at_,0,0,_,_,rfl,⟨f,r,H.2.2.2.2.1,aF,.inl ⟨aJ,rfl,rfl⟩⟩,(λ_=>rfl),(λe=>absurd e dC),(E3.1.bd.jr _ _ _ _ _)⟩
 have aW:=Av aJ;have HI:=Av (aF.iq aJ);have dw:=HI.nb;obtain⟨p0,p1,p2,p3⟩:=A7 E3.1.pb;rw[aJ]at y0;go_wp2_with fail;refine(Ni ⟨Z R p.aC T,Z O p.dk P,sO gk ok p.aD f3,Z L p.e8 t3⟩ p (q:Int) U H.1 H.2.1 H.2.2.2.2.2.2.2 (H.2.2.2.1.a7 E3.1.bd.ej lR)).mono ?_;rintro e u3 ⟨y,s,rfl,cE,bx,F⟩;obtain⟨sa,sc,es⟩:∃a c,s=Z a y.ia c:=by obtain⟨_,_,N,_⟩:=bx;exact N.bW
 subst es;have HT:=Av cE;have cQ:X+1<u3.heap.size:=(E3.1.rb.a7 F).lt;have b3:=Aq u3 (Ak #[y.bO,y.at_,y.depth,Z sa y.ia sc] 87);have E4:=Av (d5 ((E3.1.a7 F).a7 b3) (d5 ((E3.2.1.a7 F).a7 b3) (d5 ((E3.2.2.iE F lR).iE b3 lR) (d5 ((AA.new _ _ _):AA (Ac u3 (Ak #[y.bO,y.at_,y.depth,Z sa y.ia sc] 87)) u3 #[y.bO,y.at_,y.depth,Z sa y.ia sc] 87) ((Pr.of bx).a7 b3)))));clear cE bx F b3 E3 p0 p1 p2 p3 y0 y1 y2 y3 y4 y5;clear U;go_upto_region 5 with fail
 generalize u3.heap.size=TB at E4 cQ⊢;refine Ax (λU=>Ae (UG w u U X gc cc gd cd p.aD C D #[Z R p.aC T,Z O p.dk P,sO gk ok p.aD f3,Z L p.e8 t3]/\AA U FB #[r.bO,r.at_,Z v1 r.a8 c1,Z v2 r.gY c2,Z v3 r.ig c3,Z v4 r.gX c4] 84/\DQ U (Z v1 r.a8 c1) (Z v2 r.gY c2) (Z v3 r.ig c3) (Z v4 r.gX c4) r/\AA U TB #[y.bO,y.at_,y.depth,Z sa y.ia sc] 87/\Pr U (Z sa y.ia sc) y.ia)) E4 ?_
 rintro U E;clear E4;obtain⟨z0,z1,z2,z3⟩:=A7 E.2.2.2.1;by_cases aE:y.bO=0;case neg=>
  have dB:(y.bO != 0)=true:=by simpa using aE
  obtain⟨a0,x,b,A,B⟩:=BE E.1.rb;obtain⟨ao,aq,au,aw,aA⟩:=Ha E.1.rb;go_wp2_with fail;have G:Ae _:=((((E.1.rb.set 0 (iZ 4)).set 1 q).set 2 y.at_).set 3 sN).set 4 sN;simp only[lM,lU,lX]at G;clear a0 x b A B;obtain⟨a0,x,b,A,B⟩:=BE G;exact lO (v:=Am #[iZ 4,q,y.at_,sN,sN]) (by simp[results,results19,go_sem,a0,x,b,A,B]) rfl ⟨4,(q:Int),y.at_,0,0,_,_,rfl,⟨f,r,H.2.2.2.2.1,aF,.inr ⟨aW,y,HT,.inl ⟨aE,rfl,rfl⟩⟩⟩,(λ_=>rfl),(λe=>absurd e dC),(E.1.bd.jr _ _ _ _ _)⟩
 have cI:=Av (HT.len aE H.2.2.2.2.1);have aH:Ae (∀c a v d,((∃l m,Gl (Ws p q f.bO r.a8) r.gX l/\r.a8[l.head.toNat]?=K m/\c=5/\a=m.gZ)\/((∀l∈r.gX,¬Ws p q f.bO r.a8 l)/\((∃t,Gl (MM q r) p.e8 t/\c=6/\a=t.head)\/((∀t∈p.e8,¬MM q r t)/\∃z,DC p (q:Int) C z/\((z<0/\c=7/\a=0)\/(0<=z/\((64<Hm p f y D/\c=8/\a=0)\/(Hm p f y D<=64/\c=0/\a=0/\v=z/\d=Hm p f y D))))))))->MD p q C D c a v d):= λc a v d h=>⟨f,r,H.2.2.2.2.1,aF,.inr ⟨aW,y,HT,.inr ⟨aE,h⟩⟩⟩
 rw[aE]at z0;clear aE;have F0:=Av (d5 ((Aq _ _):Ah U U (Ac U (Ak #[] 2))) (VR U 2 1));go_wp2_with fail;clear z0 z1 z2 z3;go_loopw [11,12,13] (λV i _ wr=>∃(j:Nat) (aV:Option Addr) (n:List Int) (cV:Nat),j<= ↑r.gX/\V=Z aV n cV/\i=iZ j/\ ↑n<=j/\Ae ((∀l∈r.gX.take j,¬Ws p q f.bO r.a8 l)/\∀z:Int,z∈n↔∃l∈r.gX.take j,∃m,r.a8[l.head.toNat]?=K m/\m.gZ=z)/\Ae (Ah U U wr/\Ab wr U 2 1 (Z aV n cV) n (Ad As n))) (λ_ i _ _=> ↑r.gX-(intOf i).toNat)
 case atStart=>exact⟨0,_,[],_,oM,rfl,rfl,sP,⟨(λl hl=>by simp at hl), λz=>sP⟩,F0.1,F0.2⟩
 obtain⟨j,aV,n,cV,hj,rfl,rfl,cG,aG,E7⟩:=hrel;have y5:=Au E7.1 (Eg E.2.1).2.2.2.2.2;by_cases d8:j< ↑r.gX
 case pos=>
  have dt:(j:Int)<(r.gX:Int):=oM;obtain⟨l,hl⟩:∃l,r.gX[j]?=K l:=⟨_,an d8⟩;obtain⟨gl,ol,a1,x1,b,x2,cJ,i0,i1,i2,cu⟩:=Ir E.2.2.1.gX hl;subst cJ;have bV:=lA hl;have bf:=Av hl;obtain⟨⟨hd,aS,cZ⟩,cX,cU,cW⟩:=HI.loop _ bV;rw[aS]at i0;obtain⟨hb,aU⟩:∃hb,r.a8[hd]?=K hb:=⟨_,an cZ⟩;obtain⟨gb,ob,b1,b2,eb,j0,_,_,_⟩:=Hk E.2.2.1.a8 aU;subst eb;obtain⟨ja,je,e2,e3,cR,cY⟩:=HI.ie hd hb aU;rw[e2]at j0;have aj:Ae (r.a8[l.head.toNat]?=K hb/\hb.gZ=(ja:Int)):=⟨by rw[aS,lD];exact aU,e2⟩
  have dp:(hd:Int)<(r.a8:Int):=oM;have HZ:Ae (MK U ⟨Z a1 l.back x1,Z b l.a8 x2⟩ l/\l.head=(hd:Int)/\l.small):=⟨cu,aS,by unfold ML.small;omega⟩
  have HC:Ae (∀W:Y,Ah U U W->(W X=K (Z R p.aC T)/\W ⟨X,1,M⟩=K (Z O p.dk P)/\W ⟨X,2,M⟩=K (sO gk ok p.aD f3)/\W ⟨X,3,M⟩=K (Z L p.e8 t3))/\W ⟨FB,2,M⟩=K (sO gb ob r.a8 c1)/\W ⟨FB,5,M⟩=K (sO gl ol r.gX c4)/\W ⟨gl,ol+j*3,M⟩=K ↑hd/\W ⟨gl,ol+j*3+1,M⟩=K (Z a1 l.back x1)/\W ⟨gl,ol+j*3+2,M⟩=K (Z b l.a8 x2)/\W ⟨gb,ob+hd*3,M⟩=K ↑ja):= λW hW=>⟨⟨Au hW (A7 E.1.pb).1,Au hW (A7 E.1.pb).2.1,Au hW (A7 E.1.pb).2.2.1,Au hW (A7 E.1.pb).2.2.2⟩,Au hW (Eg E.2.1).2.2.1,Au hW (Eg E.2.1).2.2.2.2.2,Au hW i0,Au hW i1,Au hW i2,Au hW j0⟩
  clear i0 i1 i2 j0 e2 e3 aS cX cU cW bV hl aU cu cR cY;go_upto_region 11 with fail
  clear y5;have I:Ae (Ah U U wr.drew/\Ab wr.drew U 2 1 (Z aV n cV) n (Ad As n)):=⟨Ar E7.1 lR (At _),Aw E7.2 (At _) lR⟩
  refine wp_region_held_drew (S:= λW=>W ⟨FB,2,M⟩=K (sO gb ob r.a8 c1)/\W ⟨FB,5,M⟩=K (sO gl ol r.gX c4)/\W ⟨gl,ol+j*3,M⟩=K ↑hd/\W ⟨gb,ob+hd*3,M⟩=K ↑ja) kR (by obtain⟨_,h5,h6,h7,_,_,h8⟩:=HC.o _ I.1;exact⟨h5,h6,h7,h8⟩) (λaI=> ?_)
  clear E7;generalize wr.drew=UD at I aI⊢;refine AH 0 ?_;refine AH 1 ?_;refine AH 2 ?_;refine AH 3 ?_;refine AH 4 ?_;refine AH 5 ?_;refine AH 6 ?_;refine AH 7 ?_;refine AH 8 ?_;refine AH 9 ?_;refine AH 10 ?_;refine AH 11 ?_;refine wpAnyH_done kR ?_ _;go_simp;go_upto_region 12 with fail
  have E9:Ae (Ah U U UD.drew/\Ab UD.drew U 2 1 (Z aV n cV) n (Ad As n)):=⟨Ar I.1 lR (At _),Aw I.2 (At _) lR⟩
  refine wp_region_held_drew (S:= λW=>W X=K (Z R p.aC T)/\W ⟨X,1,M⟩=K (Z O p.dk P)/\W ⟨X,2,M⟩=K (sO gk ok p.aD f3)/\W ⟨X,3,M⟩=K (Z L p.e8 t3)/\W ⟨FB,5,M⟩=K (sO gl ol r.gX c4)/\W ⟨gl,ol+j*3,M⟩=K ↑hd/\W ⟨gl,ol+j*3+1,M⟩=K (Z a1 l.back x1)/\W ⟨gl,ol+j*3+2,M⟩=K (Z b l.a8 x2)) kR (by obtain⟨⟨h1,N,h3,h4⟩,_,h6,h7,h8,h9,_⟩:=HC.o _ E9.1;exact⟨h1,N,h3,h4,h6,h7,h8,h9⟩) (λaI=> ?_)
  clear I;generalize UD.drew=UE at E9 aI⊢;refine AH 0 ?_;refine AH 1 ?_;refine AH 2 ?_;refine AH 3 ?_;refine AH 4 ?_;refine AH 5 ?_;refine AH 6 ?_;refine CX 7 ?_;intro KC cM;go_simp;have bp:=JL ⟨Z R p.aC T,Z O p.dk P,sO gk ok p.aD f3,Z L p.e8 t3⟩ p (q:Int) ⟨Z a1 l.back x1,Z b l.a8 x2⟩ l UE H.1 H.2.1 H.2.2.2.2.2.2.2 (H.2.2.2.1.a7 (E.1.a7 E9.1).bd.ej lR) HZ.2.2 (HZ.1.a7 E9.1 lR);rw[HZ.2.1]at bp;refine bp.mono ?_;clear bp;rintro e u6 ⟨⟨nf,rfl,ce⟩,F⟩;have aP:=Av (d5 (Ar E9.1 lR F) (Aw E9.2 F lR));have bG:Ae (AU p (q:Int) f.bO r.a8 l nf):=Ot.own ce H.2.2.1 H.2.2.2.2.1 aF aW (lA bf);clear ce F;refine cM.o _ _ (by obtain⟨⟨h1,N,h3,h4⟩,_,h6,h7,h8,h9,_⟩:=HC.o _ aP.1;exact⟨h1,N,h3,h4,h6,h7,h8,h9⟩) (λaI=> ?_);refine AH 8 ?_;refine wpAnyH_done kR ?_ _;clear aI;go_simp;clear E9 HC;by_cases aM:nf=0;case neg=>(have du:(nf != 0)=true:=by simpa using aM);have aQ:Ae _:=E.1.a7 aP.1;obtain⟨a0,x,b,A,B⟩:=BE aQ.rb;obtain⟨ao,aq,au,aw,aA⟩:=Ha aQ.rb;go_wp2_with fail;have G:Ae _:=((((aQ.rb.set 0 (iZ 5)).set 1 q).set 2 ja).set 3 sN).set 4 sN;simp only[lM,lU,lX]at G;clear a0 x b A B;obtain⟨a0,x,b,A,B⟩:=BE G;exact lO (v:=Am #[iZ 5,q,ja,sN,sN]) (by simp[results,results19,go_sem,a0,x,b,A,B]) rfl ⟨5,(q:Int),(ja:Int),0,0,_,_,rfl,(aH.o _ _ _ _ (.inl ⟨l,hb,⟨j,bf,⟨nf,aM,bG⟩, λi y hi hy=>aG.1 y (lA (by rw[List.getElem?_take,lZ hi];exact hy))⟩,aj.1,rfl,aj.2.symm⟩)),(λ_=>rfl),(λe=>absurd e dC),(aQ.bd.jr _ _ _ _ _)⟩
  subst aM;have cH:Ae ((∀l∈r.gX.take (j+1),¬Ws p q f.bO r.a8 l)/\∀z:Int,z∈n++[(ja:Int)]↔∃l∈r.gX.take (j+1),∃m,r.a8[l.head.toNat]?=K m/\m.gZ=z):=by
   (have hT:r.gX.take (j+1)=r.gX.take j++[l]:=by rw[List.take_add_one,bf];rfl);rw[hT];refine⟨λl' d6=> ?_, λz=> ?_⟩
   . rcases lT.1 d6 with e|e
     . exact aG.1 l' e
     rw[mz.1 e];rintro⟨k,h1,N⟩;exact h1 (N.one bG)
   rw[lT,aG.2 z];constructor
   . rintro(⟨l',h1,N⟩|h1)
     . exact⟨l',lT.2 (.inl h1),N⟩
     exact⟨l,sP,hb,aj.1,by rw[aj.2,mz.1 h1]⟩
   rintro⟨l',h1,m,N,h3⟩;rcases lT.1 h1 with e|e
   . exact .inl ⟨l',e,m,N,h3⟩
   rw[mz.1 e,aj.1]at N;(cases N);exact .inr (by rw[mz,<-h3,aj.2])
  have EA:Ae (Ah U U (Ac u6 (Ak #[ja] 2))/\Ab (Ac u6 (Ak #[ja] 2)) U 2 1 (Z aV n cV) n (Ad As n)):=⟨Ar aP.1 lR (Aq _ _),Aw aP.2 (Aq _ _) lR⟩
  generalize hm:n.length=m at cG EA⊢;have HM:=Av hm;clear hm;go_wp2_with (first|(at_builtin;refine wpList_append_lies _ rfl _ _ 29 rfl U 2 dh (iZ 0) 1 8 underlying29 hi de df dg rfl dC (Z aV m cV) m (Ad As n) rfl EA.2 u6 1 1 [iZ (ja:Int)] rfl rfl (Si u6 _ _) (O4 _) oM oX oM EA.1.size _ rfl ?_;intro g5 bI w5 cg bT cT d9;have bB:Ae (Ah U U w5/\Ab w5 U 2 1 (sG g5 (m+1) bI) (m+1) (Ad As (n++[(ja:Int)]))):=⟨EA.1.grown bT EA.1.size (λq hq=>(EA.2.lt q hq).1),by rw[<-Vd];exact cg⟩;clear cg bT cT d9)|go_in)
  have bY:(n++[(ja:Int)]).length=m+1:=by rw[lG,HM];rfl
  clear EA;go_roundw;case rel=>exact⟨j+1,K g5,n++[(ja:Int)],bI,oM,by rw[bY],by go_num,oM,cH,bB.1,by rw[bY];exact bB.2⟩
  exact oI
 case neg=>
  go_wp2_with fail;clear y5;generalize hm:n.length=m at cG E7⊢;have HM:=Av hm;have am:Ae ((∀l∈r.gX,¬Ws p q f.bO r.a8 l)/\∀t:MT,MM q r t↔t.func=(q:Int)/\t.head∉n):=by
   have h:=aG.o;rw[mC (show ↑r.gX<=j from oM)]at h
   refine⟨h.1, λt=> ?_⟩;unfold MM;rw[h.2];constructor
   . rintro⟨h1,N⟩;exact⟨h1, λ⟨l,h3,m,h4,h5⟩=>N l h3 m h4 h5⟩
   rintro⟨h1,N⟩;exact⟨h1, λl h3 m h4 h5=>N ⟨l,h3,m,h4,h5⟩⟩
  clear aG;go_loopw [14] (λi di=>∃j:Nat,j<= ↑p.e8/\i=iZ j/\Ae (∀t∈p.e8.take j,¬MM q r t)/\di=wr) (λi _=> ↑p.e8-(intOf i).toNat)
  case atStart=>exact⟨0,oM,rfl,(λt ht=>by simp at ht),rfl⟩
  obtain⟨k,hk,rfl,aY,rfl⟩:=hrel;have p3:=Au E7.1 (A7 E.1.pb).2.2.2;by_cases d7:k< ↑p.e8
  case pos=>
   have dq:(k:Int)<(p.e8:Int):=oM;obtain⟨ct,aT⟩:∃c,p.e8[k]?=K c:=⟨_,an d7⟩;obtain⟨gt,ot,et,cw,cA⟩:∃gt ot,L=K ⟨gt,ot,M⟩/\w ⟨gt,ot+k*4,M⟩=K ↑ct.func/\w ⟨gt,ot+k*4+1,M⟩=K ↑ct.head:=by
    rcases H.2.2.2.1.e8.2 with⟨e0,_⟩|⟨gt,ot,c',e1,hc⟩
    . omega
    simp only[lB,mB]at e1;exact⟨gt,ot,e1.1,Rd.elem MT.dr hc k ct aT 0 _ rfl,Rd.elem MT.dr hc k ct aT 1 _ rfl⟩
   subst et;have I:Ae _:=E.1.a7 E7.1;have c0:=Au I.bd.ej cw;have dj:=Au I.bd.ej cA;(have HR:Ae (Rd wr 1 (Z aV n cV) n (Ad As n)):=by have:=Rd.ij E7.2;rw[HM];exact this);rw[HM]at HR;have bC:=Av aT;have bF:Ae (¬MM q r ct->∀t∈p.e8.take (k+1),¬MM q r t):= λhn t ht=>by
    rw[List.take_add_one,bC]at ht;rcases lT.1 ht with e|e
    . exact aY.o t e
    simp at e;rw[e];exact hn
   clear cw cA aT;(cases hfq:(ct.func==(q:Int)));(case false=>have aX:=Av (bF.o λe=>by rw[e.1,beq_self_eq_true]at hfq;cases hfq);go_wp2_with fail;go_roundw;(case rel=>exact⟨k+1,oM,by go_num,aX,trivial⟩);exact oI);case true=>go_wp2_with fail;refine(D9 (Z aV m cV) n ct.head wr (by rw[HM];omega) (by rw[HM];exact HR)).mono ?_;rintro e u3 ⟨⟨F,rfl,cj⟩,rfl⟩;have bH:=Av cj;clear cj;(cases F);(case true=>have aX:=Av (bF.o λe=>((am.2 ct).1 e).2 (bH.1 rfl));go_wp2_with fail;go_roundw;(case rel=>exact⟨k+1,oM,by go_num,aX,trivial⟩);exact oI);case false=>have ae:Ae (MD p q C D 6 ct.head 0 0):=aH.o _ _ _ _ (.inr ⟨am.1,.inl ⟨ct,⟨k,bC,(am.2 ct).2 ⟨by simpa using hfq, λe=>by have:=bH.2 e;cases this⟩, λi t hi ht=>aY.o t (lA (by rw[List.getElem?_take,lZ hi];exact ht))⟩,rfl,rfl⟩⟩);obtain⟨a0,x,b,A,B⟩:=BE I.rb;obtain⟨ao,aq,au,aw,aA⟩:=Ha I.rb;go_wp2_with fail;have G:Ae _:=((((I.rb.set 0 (iZ 6)).set 1 q).set 2 ct.head).set 3 sN).set 4 sN;simp only[lM,lU,lX]at G;clear a0 x b A B;obtain⟨a0,x,b,A,B⟩:=BE G;exact lO (v:=Am #[iZ 6,q,ct.head,sN,sN]) (by simp[results,results19,go_sem,a0,x,b,A,B]) rfl ⟨6,(q:Int),ct.head,0,0,_,_,rfl,ae,(λ_=>rfl),(λe=>absurd e dC),(I.bd.jr _ _ _ _ _)⟩
  case neg=>
   have bj:Ae (∀t∈p.e8,¬MM q r t):=by
    have h:=aY.o;rw[mC (show ↑p.e8<=k from oM)]at h
    exact h
   have bK:=(E.1.a7 E7.1).bd.cl;have bL:=(E.1.a7 E7.1).bd.c;have I:=Av (d5 (E.1.a7 E7.1) (d5 (E.2.1.a7 E7.1) (d5 (E.2.2.1.iE E7.1 lR) (d5 (E.2.2.2.1.a7 E7.1) (E.2.2.2.2.a7 E7.1)))));have aR:=Av (d5 bK (Rd.ij bL));clear bK bL E7 p3;obtain⟨p0,p1,p2,p3⟩:=A7 I.1.pb;go_wp2_with fail;refine(QR ⟨Z R p.aC T,Z O p.dk P,sO gk ok p.aD f3,Z L p.e8 t3⟩ p (q:Int) (sG gc p.aD cc) C wr H.1 H.2.1 H.2.2.2.2.2.2.2 (H.2.2.2.1.a7 I.1.bd.ej lR) (by rw[aR.1];exact aR.2) (by rw[aR.1];exact dd)).mono ?_;rintro e u6 ⟨⟨Q,rfl,bZ⟩,F⟩;have E9:=Av (d5 (I.1.a7 F) (d5 (I.2.1.a7 F) (d5 (I.2.2.1.iE F lR) (d5 (I.2.2.2.1.a7 F) (I.2.2.2.2.a7 F)))));have bg:=Av bZ;clear F I aR p0 p1 p2 p3 bZ;obtain⟨⟨zc,d0⟩,d1,ah⟩:=E9.1.bd.cost hq;have EB:Ae (UG w u (Aa u6 ⟨gc,q,M⟩ Q) X gc cc gd cd p.aD (C.set q Q) D #[Z R p.aC T,Z O p.dk P,sO gk ok p.aD f3,Z L p.e8 t3]/\AA (Aa u6 ⟨gc,q,M⟩ Q) TB #[y.bO,y.at_,y.depth,Z sa y.ia sc] 87/\Pr (Aa u6 ⟨gc,q,M⟩ Q) (Z sa y.ia sc) y.ia/\(Aa u6 ⟨gc,q,M⟩ Q) ⟨gc,q,M⟩=K ↑Q):=⟨⟨(ah Q).1,E9.1.pb.other (a:=⟨gc,q,M⟩) (by show X≠gc;omega) _,E9.1.rb.other (a:=⟨gc,q,M⟩) (by show X+1≠gc;omega) _⟩,E9.2.2.2.1.other (a:=⟨gc,q,M⟩) (by show TB≠gc;omega) _,E9.2.2.2.2.set d0 _,(ah Q).2⟩
   clear ah;(go_upto_region 21 with fail);refine Ax (λU=>Ae (UG w u U X gc cc gd cd p.aD (C.set q Q) D #[Z R p.aC T,Z O p.dk P,sO gk ok p.aD f3,Z L p.e8 t3]/\AA U TB #[y.bO,y.at_,y.depth,Z sa y.ia sc] 87/\Pr U (Z sa y.ia sc) y.ia/\U ⟨gc,q,M⟩=K ↑Q)) EB ?_
   clear EB;rintro U2 EB;have d0:=EB.2.2.2;by_cases aM:Q<0;(case pos=>have ae:Ae (MD p q C D 7 0 0 0):=aH.o _ _ _ _ (.inr ⟨am.1,.inr ⟨bj,Q,bg,.inl ⟨aM,rfl,rfl⟩⟩⟩);obtain⟨a0,x,b,A,B⟩:=BE EB.1.rb;obtain⟨ao,aq,au,aw,aA⟩:=Ha EB.1.rb;go_wp2_with fail;have G:Ae _:=((((EB.1.rb.set 0 (iZ 7)).set 1 q).set 2 (iZ 0)).set 3 sN).set 4 sN;simp only[lM,lU,lX]at G;clear a0 x b A B;obtain⟨a0,x,b,A,B⟩:=BE G;exact lO (v:=Am #[iZ 7,q,iZ 0,sN,sN]) (by simp[results,results19,go_sem,a0,x,b,A,B]) rfl ⟨7,(q:Int),0,0,0,_,_,rfl,ae,(λ_=>rfl),(λe=>absurd e dC),(EB.1.bd.jr _ _ _ _ _)⟩);have bP:=EB.1.bd.dl;have bQ:=EB.1.bd.d;have aZ:=Av (d5 bP (Rd.ij bQ));clear bP bQ;obtain⟨p0,p1,p2,p3⟩:=A7 EB.1.pb;obtain⟨z0,z1,z2,z3⟩:=A7 EB.2.1;go_wp2_with fail;refine(Se ⟨Z R p.aC T,Z O p.dk P,sO gk ok p.aD f3,Z L p.e8 t3⟩ p q f y (Z sa y.ia sc) (sG gd p.aD cd) D U2 H.1 H.2.2.1 (H.2.2.2.1.a7 EB.1.bd.ej lR) H.2.2.2.2.1 EB.2.2.1 cI (by rw[aZ.1];exact aZ.2) aZ.1).mono ?_;rintro e u7 ⟨rfl,F⟩;obtain⟨nd,br⟩:∃nd,Hm p f y D=nd:=⟨_,rfl⟩;have bi:=Av br;rw[br];clear br;have EC:=Av (EB.1.a7 F);obtain⟨⟨zd,d0⟩,d1,ah⟩:=EC.bd.depth hq;have ED:=Av (d5 ((⟨(ah nd).1,EC.pb.other (a:=⟨gd,q,M⟩) (by show X≠gd;omega) _,EC.rb.other (a:=⟨gd,q,M⟩) (by show X+1≠gd;omega) _⟩):UG w u (Aa u7 ⟨gd,q,M⟩ nd) X gc cc gd cd p.aD (C.set q Q) (D.set q nd) #[Z R p.aC T,Z O p.dk P,sO gk ok p.aD f3,Z L p.e8 t3]) ((ah nd).2));clear ah;(go_upto_region 24 with fail);clear EC d0 d1;refine Ax (λU=>Ae (UG w u U X gc cc gd cd p.aD (C.set q Q) (D.set q nd) #[Z R p.aC T,Z O p.dk P,sO gk ok p.aD f3,Z L p.e8 t3]/\U ⟨gd,q,M⟩=K ↑nd)) ED ?_
   clear ED;rintro U3 ED;have d0:=ED.2;by_cases db:nd>64;(case pos=>have ae:Ae (MD p q C D 8 0 0 0):=aH.o _ _ _ _ (.inr ⟨am.1,.inr ⟨bj,Q,bg,.inr ⟨oM,.inl ⟨by rw[bi];exact db,rfl,rfl⟩⟩⟩⟩);obtain⟨a0,x,b,A,B⟩:=BE ED.1.rb;obtain⟨ao,aq,au,aw,aA⟩:=Ha ED.1.rb;go_wp2_with fail;have G:Ae _:=((((ED.1.rb.set 0 (iZ 8)).set 1 q).set 2 (iZ 0)).set 3 sN).set 4 sN;simp only[lM,lU,lX]at G;obtain⟨a0,x,b,A,B⟩:=BE G;exact lO (v:=Am #[iZ 8,q,iZ 0,sN,sN]) (by simp[results,results19,go_sem,a0,x,b,A,B]) rfl ⟨8,(q:Int),0,0,0,_,_,rfl,ae,(λ_=>rfl),(λe=>absurd e dC),(ED.1.bd.jr _ _ _ _ _)⟩);have ae:=Av (aH.o _ _ _ _ (.inr ⟨am.1,.inr ⟨bj,Q,bg,.inr ⟨oM,.inr ⟨by rw[bi];omega,rfl,rfl,rfl,bi.symm⟩⟩⟩⟩));obtain⟨a0,x,b,A,B⟩:=BE ED.1.rb;obtain⟨ao,aq,au,aw,aA⟩:=Ha ED.1.rb;go_wp2_with fail;have G:Ae _:=((((ED.1.rb.set 0 (iZ 0)).set 1 (iZ 0)).set 2 (iZ 0)).set 3 sN).set 4 sN;simp only[lM,lU,lX]at G;clear a0 x b A B;obtain⟨a0,x,b,A,B⟩:=BE G;exact lO (v:=Am #[iZ 0,iZ 0,iZ 0,sN,sN]) (by simp[results,results19,go_sem,a0,x,b,A,B]) rfl ⟨0,0,0,Q,nd,_,_,rfl,ae,(λe=>absurd rfl e),(λ_=>⟨rfl,rfl⟩),(ED.1.bd.jr _ _ _ _ _)⟩
theorem It(fs:List MF):∀(n:Nat) (done:List Int),(∀z∈done,∃q:Nat,z=(q:Int)/\q< ↑fs)->(∀z∈C6 fs n done,∃q:Nat,z=(q:Int)/\q< ↑fs)/\(C6 fs n done).length<= ↑done+n:=by
 intro n;induction n with
 |zero=>intro done h;exact⟨h,Nat.le_refl _⟩
 | succ n g=>
   intro done h;unfold C6;split
   . rename_i i d;(have f:i<fs.length:=by have:=List.mem_of_find?_eq_some d;simpa using this);obtain⟨b,c⟩:=g (done++[(i:Int)]) λz a=>by
      rcases lT.1 a with e|e
      . exact h z e
      exact⟨i,mz.1 e,f⟩
     refine⟨b,?_⟩;rw[lG,lL]at c;omega
   exact⟨λz a=>(by cases a),sP⟩
def XL(p:MP)(w:Y)(e:Ending)(u':Y):Prop:=∃(c f a:Int) (vC vD:J) (C D:List Int),e=Al (Am #[c,f,a,vC,vD])/\Np p c f a C D/\Ah w w u'/\Rd u' 1 vC C (Ad As C)/\Rd u' 1 vD D (Ad As D)
theorem Vj{o:Option Nat}{g H n c:Nat}(h:o=K g\/g=H):(Z g n c).ownBlock=o\/(Z g n c).ownBlock=K H:=h.elim (λe=>.inl e.symm) (λe=>.inr (by rw[e];rfl))
theorem KL(u:Y):Rd u 1 sN ([]:List Int).length (Ad As ([]:List Int)):=⟨rfl,.inl ⟨rfl,M,0,rfl⟩⟩
structure Bp(w u:Y)(X OB:Nat)(kc kd:Nat)(P4:Array J)(vC vD:J)(C D:List Int):Prop where
 pb:AA u X P4 37
 rb:AA u (X+1) #[iZ 0,iZ 0,iZ 0,sN,sN] 31
 ob:AA u OB #[iZ 0,iZ 0,iZ 0,vC,vD] 31
 lo:X+1< ↑w/\ ↑w<=OB
 c:Ab u w 2 1 vC kc (Ad As C)
 d:Ab u w 2 1 vD kd (Ad As D)
 ne:∀b,vC.ownBlock=K b->vD.ownBlock=K b->False
 cl: ↑C=kc
 dl: ↑D=kd
 ej:Ah w w u
section
variable {w u u':Y} {X OB kc kd:Nat} {P4:Array J} {vC vD:J} {C D:List Int}
theorem Bp.a7(h:Bp w u X OB kc kd P4 vC vD C D)(a:Ah u u u'):Bp w u' X OB kc kd P4 vC vD C D:={h with pb:=h.pb.a7 a,rb:=h.rb.a7 a,ob:=h.ob.a7 a,c:=Aw h.c a lR,d:=Aw h.d a lR,ej:=Ar h.ej lR a}
theorem Bp.jw(h:Bp w u X OB kc kd P4 vC vD C D)(z:Int)(V:J)(n:Ab u' w.heap.size 2 1 V (kc+1) (Ad As C++[iZ z]))(f:u.grownBy u' vC.ownBlock)(p:V.ownBlock=vC.ownBlock\/V.ownBlock=K u.heap.size):Bp w (Aa u' ⟨OB,3,M⟩ V) X OB (kc+1) kd P4 V vD (C++[z]) D/\u'.cell? ⟨OB,3,M⟩=K vC/\u'.frozen? ⟨OB,3,M⟩=false:=by
 have m:=h.lo;have g:AA u' OB _ _:=h.ob.grown f h.c dC;have t:AA u' X _ _:=h.pb.grown f h.c dC;have v:AA u' (X+1) _ _:=h.rb.grown f h.c dC;have k:Ab u' w.heap.size 2 1 vD kd (Ad As D):=Fh h.d f (λb r q=>h.ne b q.symm r);refine⟨⟨t.other (a:=⟨OB,3,M⟩) (by show X≠OB;omega) _,v.other (a:=⟨OB,3,M⟩) (by show X+1≠OB;omega) _,by have:=g.set 3 V;simpa using this,m,?_,lI k (a:=⟨OB,3,M⟩) (λq=>Bt k g dC _ q rfl) _, λb i l=> ?_,by rw[lG,h.cl];rfl,h.dl,((h.ej.grown f h.ej.size (λj s=>(h.c.lt j s).1)).setCell m.2 _)⟩,by rw[g.cell];rfl,g.frozen 3⟩
 . rw[mH];exact lI n (a:=⟨OB,3,M⟩) (λq=>Bt n g dC _ q rfl) V
 rcases p with e|e
 . exact h.ne b (e▸i) l
 rw[e]at i;have:=Lb h.d l;simp only[lH]at i;omega
theorem Bp.kx(h:Bp w u X OB kc kd P4 vC vD C D)(z:Int)(V:J)(m:Ab u' w.heap.size 2 1 V (kd+1) (Ad As D++[iZ z]))(f:u.grownBy u' vD.ownBlock)(n:V.ownBlock=vD.ownBlock\/V.ownBlock=K u.heap.size):Bp w (Aa u' ⟨OB,4,M⟩ V) X OB kc (kd+1) P4 vC V C (D++[z])/\u'.cell? ⟨OB,4,M⟩=K vD/\u'.frozen? ⟨OB,4,M⟩=false:=by
 have l:=h.lo;have g:AA u' OB _ _:=h.ob.grown f h.d dC;have s:AA u' X _ _:=h.pb.grown f h.d dC;have t:AA u' (X+1) _ _:=h.rb.grown f h.d dC;have c':Ab u' w.heap.size 2 1 vC kc (Ad As C):=Fh h.c f (λb p q=>h.ne b p q.symm);refine⟨⟨s.other (a:=⟨OB,4,M⟩) (by show X≠OB;omega) _,t.other (a:=⟨OB,4,M⟩) (by show X+1≠OB;omega) _,by have:=g.set 4 V;simpa using this,l,lI c' (a:=⟨OB,4,M⟩) (λq=>Bt c' g dC _ q rfl) _,?_, λb k i=> ?_,h.cl,by rw[lG,h.dl];rfl,((h.ej.grown f h.ej.size (λj r=>(h.d.lt j r).1)).setCell l.2 _)⟩,by rw[g.cell];rfl,g.frozen 4⟩
 . rw[mH];exact lI m (a:=⟨OB,4,M⟩) (λq=>Bt m g dC _ q rfl) V
 rcases n with e|e
 . exact h.ne b k (e▸i)
 rw[e]at i;have:=Lb h.c k;simp only[lH]at i;omega
end
structure Bq(w u:Y)(X OB gc cc gd cd n:Nat)(P4:Array J)(C D:List Int):Prop where
 bd:Bd w u u u gc cc gd cd n C D
 pb:AA u X P4 37
 rb:AA u (X+1) #[iZ 0,iZ 0,iZ 0,sN,sN] 31
 ob:AA u OB #[iZ 0,iZ 0,iZ 0,sG gc n cc,sG gd n cd] 31
 lo:X+1< ↑w
section
variable {w u u':Y} {X OB gc cc gd cd n TB:Nat} {P4:Array J} {C D C' D':List Int}
theorem Bq.a7(h:Bq w u X OB gc cc gd cd n P4 C D)(a:Ah u u u'):Bq w u' X OB gc cc gd cd n P4 C D:=⟨(h.bd.a7 a).re,h.pb.a7 a,h.rb.a7 a,h.ob.a7 a,h.lo⟩
theorem GP{B k n c g b:Nat}{e:Aj}{xs:List J}{d:Array J}(h:Ab u B e k (sG g n c) n xs)(a:AA u b d t)(i:e≠t):b≠g:= λq=>by
 obtain⟨_,c1,f⟩:=AD h;unfold AA at a;rw[q,f]at a;injection a with a
 injection a with _ a
 exact i a
theorem Bq.set(h:Bq w u X OB gc cc gd cd n P4 C D)(m:TB≠X/\TB≠X+1/\TB≠OB/\ ↑w<=TB/\TB≠gc/\TB≠gd)(i:Nat)(V:J):Bq w (Aa u ⟨TB,i,M⟩ V) X OB gc cc gd cd n P4 C D:=by obtain⟨e,f,g,j,k,l⟩:=m;have c3:=Bn (i:=i) (z:=V) h.bd.c k.symm;have b:=Bn (i:=i) (z:=V) h.bd.d l.symm;exact⟨⟨h.bd.cl,c3,h.bd.dl,b,h.bd.ne,h.bd.ej.setCell j _,⟨(c3.lt gc rfl).2,(b.lt gd rfl).2,by rw[mc];exact h.bd.ej.size⟩,Nat.le_refl _, λ_ _ _ _=>rfl⟩,h.pb.other (a:=⟨TB,i,M⟩) e.symm _,h.rb.other (a:=⟨TB,i,M⟩) f.symm _,h.ob.other (a:=⟨TB,i,M⟩) g.symm _,h.lo⟩
theorem Bq.of(h:Bq w u X OB gc cc gd cd n P4 C D)(g:Bd w u u' u gc cc gd cd n C' D'):Bq w u' X OB gc cc gd cd n P4 C' D':=by
 have e:∀{b:Nat} {f:Array J} {t:Aj},2≠t->AA u b f t->AA u' b f t:= λi a=>by have:=g.fr _ a.lt (GP h.bd.c a i) (GP h.bd.d a i);unfold AA at a⊢;rw[this];exact a
 exact⟨g.re,e dC h.pb,e dC h.rb,e dC h.ob,h.lo⟩
end
theorem Pd(v:VP)(p:MP)(w:Y)(hs:p.small)(hw:p.wf)(h:Dm w v p):
 Ai Ap 5 #[Am #[v.r,v.k,v.f,v.t]] w (XL p w):=by
 obtain⟨bx,hi,bq,br,bt⟩:=mN Br;obtain⟨x,y,s,u,A,B,f1,f3,rfl⟩:=h.sl;have bZ:=hs.aD;have H:=Av (d5 hs (d5 hw h));obtain⟨X,hX⟩:∃X,w.heap.size=X:=⟨_,rfl⟩;have E0:Ae (AA (Ac (Ac w (Ak #[Z x p.aC.length y,Z s p.dk.length u,Z f1 p.aD.length f3,Z A p.e8.length B] 37)) (Ak #[iZ 0,iZ 0,iZ 0,sN,sN] 31)) X #[Z x p.aC.length y,Z s p.dk.length u,Z f1 p.aD.length f3,Z A p.e8.length B] 37/\AA (Ac (Ac w (Ak #[Z x p.aC.length y,Z s p.dk.length u,Z f1 p.aD.length f3,Z A p.e8.length B] 37)) (Ak #[iZ 0,iZ 0,iZ 0,sN,sN] 31)) (X+1) #[iZ 0,iZ 0,iZ 0,sN,sN] 31/\Ah X w (Ac (Ac w (Ak #[Z x p.aC.length y,Z s p.dk.length u,Z f1 p.aD.length f3,Z A p.e8.length B] 37)) (Ak #[iZ 0,iZ 0,iZ 0,sN,sN] 31))):=by have e:=Bu w #[Z x p.aC.length y,Z s p.dk.length u,Z f1 p.aD.length f3,Z A p.e8.length B] #[iZ 0,iZ 0,iZ 0,sN,sN] 37 31;rw[hX]at e;exact e
 have m:=Av hX;go_enter func5,ntmps5;go_upto_region 1 with fail
 refine Ax (λU=>Ae (AA U X #[Z x p.aC y,Z s p.dk u,Z f1 p.aD f3,Z A p.e8 B] 37/\AA U (X+1) #[iZ 0,iZ 0,iZ 0,sN,sN] 31/\Ah X w U)) E0 ?_
 rintro U E1;obtain⟨p0,p1,p2,p3⟩:=A7 E1.1;have aE:Ae (∀U,Ah X w U->Ah w w U):= λU hU=>by rw[m];exact hU
 go_wp2_with fail;refine(Du ⟨Z x p.aC y,Z s p.dk u,Z f1 p.aD f3,Z A p.e8 B⟩ p U H.1 H.2.1 (H.2.2.a7 (aE.o _ E1.2.2) lR)).mono ?_;rintro e u1 ⟨⟨n,rfl,hn⟩,bb⟩;have E2:=Av (d5 (E1.1.a7 bb) (d5 (E1.2.1.a7 bb) (Ar E1.2.2 (by rw[m];exact Nat.le_refl _) bb)));by_cases bg:n=0;case neg=>
  have bV:(n != 0)=true:=by simpa using bg
  have aj:Ae (Np p 1 0 0 [] []):=.inl ⟨λe=>bg (hn.one e),rfl,rfl,rfl,rfl,rfl⟩;obtain⟨a0,W,a2,a3,a4⟩:=BE E2.2.1;obtain⟨aR,aS,aT,aU,aW⟩:=Ha E2.2.1;go_wp2_with fail;have G:Ae _:=((((E2.2.1.set 0 (iZ 1)).set 1 (iZ 0)).set 2 (iZ 0)).set 3 sN).set 4 sN;simp only[lM,lU,lX]at G;obtain⟨a0,W,a2,a3,a4⟩:=BE G;exact lO (v:=Am #[iZ 1,iZ 0,iZ 0,sN,sN]) (by simp[results,results5,go_sem,a0,W,a2,a3,a4]) rfl ⟨1,0,0,sN,sN,[],[],rfl,aj,((((((aE.o _ E2.2.2).setCell (by show ↑w<=X+1;rw[m];omega) _).setCell (by show ↑w<=X+1;rw[m];omega) _).setCell (by show ↑w<=X+1;rw[m];omega) _).setCell (by show ↑w<=X+1;rw[m];omega) _).setCell (by show ↑w<=X+1;rw[m];omega) _),KL _,KL _⟩
 subst bg;have aq:=Av hn;obtain⟨p0,p1,p2,p3⟩:=A7 E2.1;go_wp2_with fail;refine(Nh ⟨Z x p.aC y,Z s p.dk u,Z f1 p.aD f3,Z A p.e8 B⟩ p u1 H.1 H.2.1 (H.2.2.a7 (aE.o _ E2.2.2) lR)).mono ?_;rintro e l ⟨V,F,rfl,hV,hO,bb⟩;obtain⟨aV,cV,eV⟩:=hV.bW;subst eV;have E3:=Av (d5 (E2.1.a7 bb) (d5 (E2.2.1.a7 bb) (Ar E2.2.2 (by rw[m];exact Nat.le_refl _) bb)));have HO:Ae (Rd l 1 (Z aV F cV) F (Ad As F)/\∀z∈F,∃q:Nat,z=(q:Int)/\q< ↑p.aD):=⟨hV,by
  rcases hO with⟨_,e⟩|⟨e,_⟩
  . rw[e];exact(It p.aD p.aD [] (λz hz=>by cases hz)).1
  exact absurd aq.o e⟩
 have aZ:Ae (F=Cq p.aD):=by
  rcases hO with⟨_,e⟩|⟨e,_⟩
  . exact e
  exact absurd aq.o e
 have ce:F.length<=1048576:=by
  rcases hO with⟨_,e⟩|⟨e,_⟩
  . rw[e];have:=(It p.aD p.aD [] (λz hz=>by cases hz)).2;unfold Cq;simp at this;omega
  exact absurd aq.o e
 by_cases bu:F.length=0;case pos=>
  have bL:((F:Int)==0)=true:=by rw[beq_iff_eq];omega
  have aj:Ae (Np p 2 0 0 [] []):=.inr (.inl ⟨aq,by rw[<-aZ];exact List.length_eq_zero_iff.1 bu,rfl,rfl,rfl,rfl,rfl⟩);obtain⟨a0,W,a2,a3,a4⟩:=BE E3.2.1;obtain⟨aR,aS,aT,aU,aW⟩:=Ha E3.2.1;go_wp2_with fail;have G:Ae _:=((((E3.2.1.set 0 (iZ 2)).set 1 (iZ 0)).set 2 (iZ 0)).set 3 sN).set 4 sN;simp only[lM,lU,lX]at G;obtain⟨a0,W,a2,a3,a4⟩:=BE G;exact lO (v:=Am #[iZ 2,iZ 0,iZ 0,sN,sN]) (by simp[results,results5,go_sem,a0,W,a2,a3,a4]) rfl ⟨2,0,0,sN,sN,[],[],rfl,aj,((((((aE.o _ E3.2.2).setCell (by show ↑w<=X+1;rw[m];omega) _).setCell (by show ↑w<=X+1;rw[m];omega) _).setCell (by show ↑w<=X+1;rw[m];omega) _).setCell (by show ↑w<=X+1;rw[m];omega) _).setCell (by show ↑w<=X+1;rw[m];omega) _),KL _,KL _⟩
 have bL:((F:Int)==0)=false:=by rw[o9];omega
 have F0:Ae (Bp l (Ac l (Ak #[iZ 0,iZ 0,iZ 0,sN,sN] 31)) X l 0 0 #[Z x p.aC y,Z s p.dk u,Z f1 p.aD f3,Z A p.e8 B] sN sN [] []):=⟨E3.1.a7 (Aq _ _),E3.2.1.a7 (Aq _ _),AA.new _ _ _,⟨E3.2.1.lt,Nat.le_refl _⟩,mI _ _ _ _,mI _ _ _ _, λb hb=>(by cases hb),rfl,rfl,Aq _ _⟩;have W3:=Av (aE.o _ E3.2.2);go_wp2_with fail;generalize l.heap.size=OB at F0⊢;go_loopw [5] (λi wr=>∃k:Nat,k<= ↑p.aD/\i=iZ k/\Ae (∃vC vD C D,Bp l wr X OB k k #[Z x p.aC y,Z s p.dk u,Z f1 p.aD f3,Z A p.e8 B] vC vD C D)) (λi _=> ↑p.aD-(intOf i).toNat)
 case atStart=>exact⟨0,oM,rfl,_,_,_,_,F0⟩
 obtain⟨k,hk,rfl,E4⟩:=hrel;obtain⟨vC,vD,C,D,bI⟩:=E4.o;have L:=Av bI;have p2:=(A7 L.pb).2.2.1;by_cases bp:k< ↑p.aD
 case pos=>
  have bK:(k:Int)<(p.aD:Int):=oM;have o3:=(BE L.ob).2.2.2.1;have EA:Ae (Bp l (Ac wr (Ak #[iZ (-1)] 2)) X OB k k #[Z x p.aC y,Z s p.dk u,Z f1 p.aD f3,Z A p.e8 B] vC vD C D):=L.a7 (Aq _ _);have q3:=(BE EA.ob).2.2.2.1;go_upto_region 11 with(first|(at_builtin;refine wpList_append_lies _ rfl _ _ 29 rfl l 2 bx (iZ 0) 1 8 underlying29 hi bq br bt rfl dC vC k (C.flatMap As) rfl EA.c wr 1 1 [iZ (-1)] rfl rfl (Si wr _ _) (O4 _) oM oX oM EA.ej.size _ rfl ?_;intro g5 aF w5 aJ aH aG bf;have PI:Ae (Bp l (Aa w5 ⟨OB,3,none⟩ (sG g5 (k+1) aF)) X OB (k+1) k #[Z x p.aC y,Z s p.dk u,Z f1 p.aD f3,Z A p.e8 B] (sG g5 (k+1) aF) vD (C++[-1]) D/\w5 ⟨OB,3,none⟩=K vC/\w5.frozen? ⟨OB,3,M⟩=false):=EA.jw (-1) _ aJ aH (Vj aG);have s6:=PI.2.1;have bP:=PI.2.2;clear aJ aH aG bf)|go_in)
  have R:Ae _:=PI.1;refine Ax (λU=>Ae (Bp l U X OB (k+1) k #[Z x p.aC y,Z s p.dk u,Z f1 p.aD f3,Z A p.e8 B] (sG g5 (k+1) aF) vD (C++[-1]) D)) R ?_;rintro U R;have o4:=(BE R.ob).2.2.2.2;have EB:Ae (Bp l (U.alloc (Ak #[iZ 0] 2)) X OB (k+1) k #[Z x p.aC y,Z s p.dk u,Z f1 p.aD f3,Z A p.e8 B] (sG g5 (k+1) aF) vD (C++[-1]) D):=R.a7 (Aq _ _);have q4:=(BE EB.ob).2.2.2.2;go_wp2_with (first|(at_builtin;refine wpList_append_lies _ rfl _ _ 29 rfl l 2 bx (iZ 0) 1 8 underlying29 hi bq br bt rfl dC vD k (D.flatMap As) rfl EB.d U 1 1 [iZ 0] rfl rfl (Si U _ _) (O4 _) oM oX oM EB.ej.size _ rfl ?_;intro g6 bj w6 aJ aH aG bf;have PI:Ae (Bp l (Aa w6 ⟨OB,4,M⟩ (sG g6 (k+1) bj)) X OB (k+1) (k+1) #[Z x p.aC y,Z s p.dk u,Z f1 p.aD f3,Z A p.e8 B] (sG g5 (k+1) aF) (sG g6 (k+1) bj) (C++[-1]) (D++[0])/\w6 ⟨OB,4,M⟩=K vD/\w6.frozen? ⟨OB,4,M⟩=false):=EB.kx 0 _ aJ aH (Vj aG);have s6:=PI.2.1;have bP:=PI.2.2;clear aJ aH aG bf)|go_in)
  go_roundw;case rel=>exact⟨k+1,oM,by go_num,_,_,_,_,PI.1⟩
  exact oI
 case neg=>
  obtain rfl:k=p.aD.length:=oM;have bY:0<p.aD.length:=by obtain⟨z,hz⟩:∃z,F[0]?=K z:=⟨_,an oM⟩;obtain⟨q,_,hq⟩:=HO.2 z (lA hz);omega
  obtain⟨gc,cc,eC⟩:∃gc cc,vC=sG gc p.aD cc:=by
   rcases Bo L.c with⟨e,h0⟩|⟨gc,cc,e⟩
   . omega
   exact⟨gc,cc,e⟩
  obtain⟨gd,cd,eD⟩:∃gd cd,vD=sG gd p.aD cd:=by
   rcases Bo L.d with⟨e,h0⟩|⟨gd,cd,e⟩
   . omega
   exact⟨gd,cd,e⟩
  subst eC eD;have F1:Ae (Bq l wr X OB gc cc gd cd p.aD #[Z x p.aC y,Z s p.dk u,Z f1 p.aD f3,Z A p.e8 B] C D):=⟨⟨L.cl,L.c,L.dl,L.d, λe=>L.ne gc rfl (by rw[e];rfl),L.ej,⟨(L.c.lt gc rfl).2,(L.d.lt gd rfl).2,L.ej.size⟩,Nat.le_refl _, λ_ _ _ _=>rfl⟩,L.pb,L.rb,L.ob,L.lo.1⟩;have bi:Ae (∀c g a P Q,Pw p ((F.drop 0).map Int.toNat) C D c g a P Q->Np p c g a P Q):= λc g a P Q h=>.inr (.inr ⟨aq, λe=>bu (by rw[aZ,e];rfl),C,D,F1.bd.cl,F1.bd.dl,by rw[<-aZ];exact h⟩)
  go_wp2_with fail;go_loopw [6,7] (λi _ wr=>∃(j:Nat) (C D:List Int),j<= ↑F/\i=iZ j/\Ae (∀c g a P Q,Pw p ((F.drop j).map Int.toNat) C D c g a P Q->Np p c g a P Q)/\Ae (Bq l wr X OB gc cc gd cd p.aD #[Z x p.aC y,Z s p.dk u,Z f1 p.aD f3,Z A p.e8 B] C D)) (λi _ _=> ↑F-(intOf i).toNat)
  case atStart=>exact⟨0,C,D,oM,rfl,bi,F1⟩
  clear F1 bi;obtain⟨j,C,D,hj,rfl,aA,R⟩:=hrel;have bT:=R.lo;have ao:=Av W3.o;by_cases bp:j< ↑F
  case neg=>obtain⟨a0,W,a2,a3,a4⟩:=BE R.rb;obtain⟨b0,b1,b2,b3,b4⟩:=BE R.ob;obtain⟨aR,aS,aT,aU,aW⟩:=Ha R.rb;have aj:=Av (aA.o _ _ _ _ _ (by rw[oF oM];exact .nil));go_wp2_with fail;have G:Ae _:=((((R.rb.set 0 (iZ 0)).set 1 (iZ 0)).set 2 (iZ 0)).set 3 (sG gc p.aD cc)).set 4 (sG gd p.aD cd);simp only[lM,lU,lX]at G;obtain⟨a0,W,a2,a3,a4⟩:=BE G;exact lO (v:=Am #[iZ 0,iZ 0,iZ 0,sG gc p.aD cc,sG gd p.aD cd]) (by simp[results,results5,go_sem,a0,W,a2,a3,a4]) rfl ⟨0,0,0,_,_,C,D,rfl,aj,(((((ao.trans (R.bd.ej.mono ao.size)).setCell (by show ↑w<=X+1;rw[m];omega) _).setCell (by show ↑w<=X+1;rw[m];omega) _).setCell (by show ↑w<=X+1;rw[m];omega) _).setCell (by show ↑w<=X+1;rw[m];omega) _).setCell (by show ↑w<=X+1;rw[m];omega) _,by rw[R.bd.cl];exact Rd.ij (lV (lV (lV (lV (lV R.bd.c (by show X+1< ↑l;omega) _) (by show X+1< ↑l;omega) _) (by show X+1< ↑l;omega) _) (by show X+1< ↑l;omega) _) (by show X+1< ↑l;omega) _),by rw[R.bd.dl];exact Rd.ij (lV (lV (lV (lV (lV R.bd.d (by show X+1< ↑l;omega) _) (by show X+1< ↑l;omega) _) (by show X+1< ↑l;omega) _) (by show X+1< ↑l;omega) _) (by show X+1< ↑l;omega) _)⟩
  have bK:(j:Int)<(F:Int):=oM;obtain⟨z,hz⟩:∃z,F[j]?=K z:=⟨_,an bp⟩;obtain⟨q,eq,hq⟩:=HO.2 z (lA hz);subst eq;obtain⟨ga,oa,ea,kz⟩:∃ga oa,aV=K ⟨ga,oa,M⟩/\l ⟨ga,oa+j,M⟩=K ↑q:=by
   rcases HO.1.2 with⟨e0,_⟩|⟨g1,o1,bS,e1,hc⟩
   . omega
   simp only[lB,mB]at e1;exact⟨g1,o1,e1.1,hc j _ (Di hz)⟩
  subst ea;have aQ:Ae ((F.drop j).map Int.toNat=q::(F.drop (j+1)).map Int.toNat):=by obtain⟨l1,e1⟩:=i8.1 hz;show(F.drop j).map Int.toNat=_;rw[mq l1,e1,nQ,lD]
  have HS:Ae (∀(U:Y) (C D:List Int),Bq l U X OB gc cc gd cd p.aD #[Z x p.aC y,Z s p.dk u,Z f1 p.aD f3,Z A p.e8 B] C D->U X=K (Z x p.aC y)/\U ⟨X,1,M⟩=K (Z s p.dk u)/\U ⟨X,2,M⟩=K (Z f1 p.aD f3)/\U ⟨X,3,M⟩=K (Z A p.e8 B)/\U ⟨ga,oa+j,M⟩=K ↑q/\U ⟨OB,3,M⟩=K (sG gc p.aD cc)/\U ⟨OB,4,M⟩=K (sG gd p.aD cd)):= λU C D hU=>⟨(A7 hU.pb).1,(A7 hU.pb).2.1,(A7 hU.pb).2.2.1,(A7 hU.pb).2.2.2,Au hU.bd.ej kz,(BE hU.ob).2.2.2.1,(BE hU.ob).2.2.2.2⟩
  go_upto_region 15 with fail
  have ED:=Av (R.a7 (At _));refine wp_region_held_drew (S:= λU=>U X=K (Z x p.aC y)/\U ⟨X,1,M⟩=K (Z s p.dk u)/\U ⟨X,2,M⟩=K (Z f1 p.aD f3)/\U ⟨X,3,M⟩=K (Z A p.e8 B)/\U ⟨ga,oa+j,M⟩=K ↑q/\U ⟨OB,3,M⟩=K (sG gc p.aD cc)/\U ⟨OB,4,M⟩=K (sG gd p.aD cd)) kR (by exact HS.o _ _ _ ED) (λau=> ?_)
  generalize wr.drew=T at ED au⊢;refine AH 0 ?_;refine AH 1 ?_;refine AH 2 ?_;refine AH 3 ?_;refine AH 4 ?_;refine AH 5 ?_;refine AH 6 ?_;refine AH 7 ?_;refine AH 8 ?_;refine wpAnyH_ready (rs:=[9,10]) kR sP ?_;refine AllReadyH.cons rfl (λKC ah=> ?_) (AllReadyH.cons rfl (λKC ah=> ?_) AllReadyH.nil);focus
   go_simp;refine(Te ⟨Z x p.aC y,Z s p.dk u,Z f1 p.aD f3,Z A p.e8 B⟩ p q (T).heap.size gc cc gd cd C D l (T) rfl H.1 H.2.1 aq (H.2.2.a7 ao lR) hq ED.bd).mono ?_;rintro e u6 ⟨E,O,N,rv,rd,C',D',rfl,aI,aP,aM,aX⟩;have ae:=Av (d5 aI (d5 aP aM));clear aI aP aM;have EC:=Av (ED.of aX);refine ah.o _ _ (by exact HS.o _ _ _ EC) (λau=> ?_);refine CX 10 ?_;intro KC ah;go_simp;refine ah.o _ _ (by exact HS.o _ _ _ (EC.a7 (Aq _ _))) (λau=> ?_);refine CX 11 ?_;intro KC ah;go_simp;refine ah.o _ _ (by exact HS.o _ _ _ (EC.a7 (Aq _ _))) (λau=> ?_);refine wpAnyH_done kR ?_ _;go_simp;have I:Ae (Bq l (Ac u6 (Ak #[E,O,N,sN,sN] 31)) X OB gc cc gd cd p.aD #[Z x p.aC y,Z s p.dk u,Z f1 p.aD f3,Z A p.e8 B] C' D'/\AA (Ac u6 (Ak #[E,O,N,sN,sN] 31)) u6 #[E,O,N,sN,sN] 31):=⟨EC.a7 (Aq _ _),AA.new _ _ _⟩
   generalize u6.heap.size=TB at I⊢;generalize Ac u6 (Ak #[E,O,N,sN,sN] 31)=UW at I⊢;by_cases am:E=0;(case pos=>subst am;(have aY:Ae (∀c g a P Q,Pw p ((F.drop (j+1)).map Int.toNat) C' D' c g a P Q->Np p c g a P Q):= λc g a P Q h=>aA.o c g a P Q (by obtain⟨rfl,rfl⟩:=ae.2.2 rfl;rw[aQ];have e:=ae.1.a0;exact .step (e▸ae.1) h));have t0:=(BE I.2).1;go_wp2_with fail;go_roundw;(case rel=>exact⟨j+1,C',D',oM,by go_num,aY,I.1⟩);exact oI);case neg=>(have bJ:(E != 0)=true:=by simpa using am);have aj:Ae (Np p E O N [] []):=aA.o _ _ _ _ _ (by rw[aQ,ae.2.1 am];exact .bad ae.1 am);obtain⟨t0,bQ,t2,bR,t4⟩:=BE I.2;have EX:=Av (ao.trans (I.1.bd.ej.mono ao.size));obtain⟨a0,W,a2,a3,a4⟩:=BE I.1.rb;obtain⟨aR,aS,aT,aU,aW⟩:=Ha I.1.rb;go_wp2_with fail;have G:Ae _:=((((I.1.rb.set 0 E).set 1 O).set 2 N).set 3 sN).set 4 sN;simp only[lM,lU,lX]at G;obtain⟨a0,W,a2,a3,a4⟩:=BE G;exact lO (v:=Am #[E,O,N,sN,sN]) (by simp[results,results5,go_sem,a0,W,a2,a3,a4]) rfl ⟨E,O,N,sN,sN,[],[],rfl,aj,((((((EX.o).setCell (by show ↑w<=X+1;rw[m];omega) _).setCell (by show ↑w<=X+1;rw[m];omega) _).setCell (by show ↑w<=X+1;rw[m];omega) _).setCell (by show ↑w<=X+1;rw[m];omega) _).setCell (by show ↑w<=X+1;rw[m];omega) _),KL _,KL _⟩
  focus
   go_simp;have EA:Ae (Bq l (Ac T (Ak #[iZ 0,iZ 0,iZ 0,sN,sN] 31)) X OB gc cc gd cd p.aD #[Z x p.aC y,Z s p.dk u,Z f1 p.aD f3,Z A p.e8 B] C D):=ED.a7 (Aq _ _);refine ah.o _ _ (by exact HS.o _ _ _ EA) (λau=> ?_);refine CX 9 ?_;intro KC ah;go_simp;refine(Te ⟨Z x p.aC y,Z s p.dk u,Z f1 p.aD f3,Z A p.e8 B⟩ p q (Ac T (Ak #[iZ 0,iZ 0,iZ 0,sN,sN] 31)).heap.size gc cc gd cd C D l (Ac T (Ak #[iZ 0,iZ 0,iZ 0,sN,sN] 31)) rfl H.1 H.2.1 aq (H.2.2.a7 ao lR) hq EA.bd).mono ?_;rintro e u6 ⟨E,O,N,rv,rd,C',D',rfl,aI,aP,aM,aX⟩;have ae:=Av (d5 aI (d5 aP aM));clear aI aP aM;have EC:=Av (EA.of aX);(have ET:Ae (AA u6 T #[iZ 0,iZ 0,iZ 0,sN,sN] 31):=by have c2:=EA.bd.c;have d2:=EA.bd.d;have hB:=AA.new T #[iZ 0,iZ 0,iZ 0,sN,sN] 31;have:=aX.fr _ hB.lt (GP c2 hB dC) (GP d2 hB dC);show AA u6 T _ _;unfold AA at hB⊢;rw[this];exact hB);refine ah.o _ _ (by exact HS.o _ _ _ EC) (λau=> ?_);obtain⟨s0,s1,s2,s3,s4⟩:=BE ET;obtain⟨bB,bC,bF,bG,bH⟩:=Ha ET;have aw:Ae (↑T≠X/\ ↑T≠X+1/\ ↑T≠OB/\(l:Nat)<= ↑T/\ ↑T≠gc/\ ↑T≠gd):=⟨λe=>by have:=ED.pb.lt;omega, λe=>by have:=ED.rb.lt;omega, λe=>by have:=ED.ob.lt;omega,ED.bd.ej.size, λe=>by have:=ED.bd.up.1;omega, λe=>by have:=ED.bd.up.2.1;omega⟩
   generalize T.heap.size=TB at ET aw s0 s1 s2 s3 s4 bB bC bF bG bH⊢;have I:Ae (Bq l (Aa (Aa (Aa (Aa (u6.setCell TB E) ⟨TB,1,M⟩ O) ⟨TB,2,M⟩ N) ⟨TB,3,M⟩ sN) ⟨TB,4,M⟩ sN) X OB gc cc gd cd p.aD #[Z x p.aC y,Z s p.dk u,Z f1 p.aD f3,Z A p.e8 B] C' D'/\AA (Aa (Aa (Aa (Aa (u6.setCell TB E) ⟨TB,1,M⟩ O) ⟨TB,2,M⟩ N) ⟨TB,3,M⟩ sN) ⟨TB,4,M⟩ sN) TB #[E,O,N,sN,sN] 31):=by refine⟨((((EC.set aw _ _).set aw _ _).set aw _ _).set aw _ _).set aw _ _,?_⟩;have:=((((ET.set 0 E).set 1 O).set 2 N).set 3 sN).set 4 sN;simpa using this
   refine CX 11 ?_;intro KC ah;go_simp;refine ah.o _ _ (by exact HS.o _ _ _ I.1) (λau=> ?_);refine wpAnyH_done kR ?_ _;go_simp;generalize Aa (Aa (Aa (Aa (u6.setCell TB E) ⟨TB,1,M⟩ O) ⟨TB,2,M⟩ N) ⟨TB,3,M⟩ sN) ⟨TB,4,M⟩ sN=UW at I⊢;by_cases am:E=0;(case pos=>subst am;(have aY:Ae (∀c g a P Q,Pw p ((F.drop (j+1)).map Int.toNat) C' D' c g a P Q->Np p c g a P Q):= λc g a P Q h=>aA.o c g a P Q (by obtain⟨rfl,rfl⟩:=ae.2.2 rfl;rw[aQ];have e:=ae.1.a0;exact .step (e▸ae.1) h));have t0:=(BE I.2).1;go_wp2_with fail;go_roundw;(case rel=>exact⟨j+1,C',D',oM,by go_num,aY,I.1⟩);exact oI);case neg=>(have bJ:(E != 0)=true:=by simpa using am);have aj:Ae (Np p E O N [] []):=aA.o _ _ _ _ _ (by rw[aQ,ae.2.1 am];exact .bad ae.1 am);obtain⟨t0,bQ,t2,bR,t4⟩:=BE I.2;have EX:=Av (ao.trans (I.1.bd.ej.mono ao.size));obtain⟨a0,W,a2,a3,a4⟩:=BE I.1.rb;obtain⟨aR,aS,aT,aU,aW⟩:=Ha I.1.rb;go_wp2_with fail;have G:Ae _:=((((I.1.rb.set 0 E).set 1 O).set 2 N).set 3 sN).set 4 sN;simp only[lM,lU,lX]at G;obtain⟨a0,W,a2,a3,a4⟩:=BE G;exact lO (v:=Am #[E,O,N,sN,sN]) (by simp[results,results5,go_sem,a0,W,a2,a3,a4]) rfl ⟨E,O,N,sN,sN,[],[],rfl,aj,((((((EX.o).setCell (by show ↑w<=X+1;rw[m];omega) _).setCell (by show ↑w<=X+1;rw[m];omega) _).setCell (by show ↑w<=X+1;rw[m];omega) _).setCell (by show ↑w<=X+1;rw[m];omega) _).setCell (by show ↑w<=X+1;rw[m];omega) _),KL _,KL _⟩
def BoI(p:MP)(w:Y)(e:Ending)(f:Y):Prop:=∃(c g a:Int) (b d:J) (C D:List Int),e=Al (Am #[c,g,a,b,d])/\Np p c g a C D/\Cl f w [(b,C),(d,D)]/\Ah w w f
theorem LE(u:Y)(b:Nat):Cl u b [(sN,[]),(sN,[])]:=⟨λx a=>by
 rcases lw.1 a with rfl|a
 . exact mI _ _ _ _
 . rw[mz.1 a];exact mI _ _ _ _,by
 refine .cons (λy c=> ?_) (.cons (λy c=>by cases c) .nil);intro g d;cases d⟩
structure XK(w u:Y)(P:Array J):Prop where
 pb:AA u w P 37
 rb:AA u ((w:Nat)+1) #[iZ 0,iZ 0,iZ 0,sN,sN] 31
 ej:Ah w w u
theorem XK.a7{w u b:Y}(h:XK w u P)(a:Ah u u b):XK w b P:=⟨h.pb.a7 a,h.rb.a7 a,Ar h.ej lR a⟩
theorem XK.j9{w u:Y}(h:XK w u P)(a b c d e:J):Ah w w (Aa (Aa (Aa (Aa (Aa u ⟨(w:Nat)+1,0,M⟩ a) ⟨(w:Nat)+1,1,M⟩ b) ⟨(w:Nat)+1,2,M⟩ c) ⟨(w:Nat)+1,3,M⟩ d) ⟨(w:Nat)+1,4,M⟩ e):=((((h.ej.setCell (by show(w:Nat)<= ↑w+1;omega) _).setCell (by show(w:Nat)<= ↑w+1;omega) _).setCell (by show(w:Nat)<= ↑w+1;omega) _).setCell (by show(w:Nat)<= ↑w+1;omega) _).setCell (by show(w:Nat)<= ↑w+1;omega) _
theorem MG.a7{w u:Y}{s:J}{fs:List MF}(h:MG w s fs)(d:Ah w w u):MG u s fs:=by obtain⟨e,a,b,c⟩:=h;exact⟨e,a,b.a7 d lR,c⟩
theorem G9.new{b W:Y}{r k t:FA}{gk ok fc n d e:Nat}(h:Ab W b 2 1 (sG d n n) n (Ad As (List.replicate n (0:Int))))(i:Ab W b 2 1 (sG e n n) n (Ad As (List.replicate n (0:Int))))(g:d≠e)(f:Ah b b W):G9 b (Ac W (Ak #[.iface 57 (Am #[]),Z r.a r.n r.c,Z k.a k.n k.c,sO gk ok n fc,Z t.a t.n t.c,sG d n n,sG e n n] 115)) W r k t gk ok fc d n e n n (List.replicate n 0) (List.replicate n 0):=⟨AA.new _ _ _,nH,Aw h (Aq _ _) lR,nH,Aw i (Aq _ _) lR,g,f.size,Ar f lR (Aq _ _)⟩
theorem PQ(v:VP)(p:MP)(w:Y)(hs:p.small)(hw:p.wf)(h:Dm w v p)(bf:Jp w v.r p.aC)(bi:MH w v.f p.aD)(bg:MG w v.f p.aD):
 Ai Ap 24 #[Am #[v.r,v.k,v.f,v.t],.iface 57 (Am #[])] w (BoI p w):=by
 obtain⟨k0,bj,bB,bC,bF⟩:=mN Br;have H:=Av (d5 hs (d5 hw (d5 h (d5 bf (d5 bi bg)))));have bK:=hs.aD;obtain⟨r1,r3,Q,R,t1,t3,f1,f3,rfl⟩:=h.sl;clear hs hw h bf bi bg;generalize br:p.aD.length=l at H bK⊢;have aj:=Av br;clear br;generalize p.aC.length=X at H⊢;generalize p.dk.length=T at H⊢;generalize p.e8.length=nt at H⊢;simp only[]at H;have E0:=Bu w #[Z r1 X r3,Z Q T R,Z f1 l f3,Z t1 nt t3] #[iZ 0,iZ 0,iZ 0,sN,sN] 37 31;go_enter func24,ntmps24;go_upto_region 1 with fail
 refine Ax (λu=>Ae (XK w u #[Z r1 X r3,Z Q T R,Z f1 l f3,Z t1 nt t3])) ⟨E0.1,E0.2.1,E0.2.2⟩ ?_;rintro U E1;clear E0;obtain⟨p0,p1,p2,p3⟩:=A7 E1.pb;go_wp2_with fail;refine(Gs ⟨Z r1 X r3,Z Q T R,Z f1 l f3,Z t1 nt t3⟩ p U H.1 H.2.1 (H.2.2.1.a7 E1.ej lR) (H.2.2.2.1.a7 E1.ej lR) (H.2.2.2.2.1.a7 E1.ej lR)).mono ?_;rintro e u1 ⟨⟨n,rfl,hn⟩,bb⟩;have E2:=Av (E1.a7 bb);clear bb E1 p0 p1 p2 p3;by_cases aP:n=0;case neg=>rw[show Nx n=.iface 153 n from by unfold Nx;rw[lS aP]];have ao:Ae (Np p 1 0 0 [] []):=.inl ⟨λe=>aP (hn.one e),rfl,rfl,rfl,rfl,rfl⟩;clear hn;obtain⟨a0,F,I,L,N⟩:=BE E2.rb;obtain⟨aE,aF,aG,aH,aI⟩:=Ha E2.rb;go_wp2_with fail;have G:Ae _:=((((E2.rb.set 0 (iZ 1)).set 1 (iZ 0)).set 2 (iZ 0)).set 3 sN).set 4 sN;simp only[lM,lU,lX]at G;clear a0 F I L N;obtain⟨a0,F,I,L,N⟩:=BE G;exact lO (v:=Am #[iZ 1,iZ 0,iZ 0,sN,sN]) (by simp[results,results24,go_sem,a0,F,I,L,N]) rfl ⟨1,0,0,sN,sN,[],[],rfl,ao,LE _ _,E2.j9 _ _ _ _ _⟩
 subst aP;rw[show Nx 0=.nilIface from rfl];have aw:=Av hn;clear hn;obtain⟨p0,p1,p2,p3⟩:=A7 E2.pb;go_wp2_with fail;refine(M1 ⟨Z r1 X r3,Z Q T R,Z f1 l f3,Z t1 nt t3⟩ p u1 H.1 H.2.1 (H.2.2.1.a7 E2.ej lR) (H.2.2.2.1.a7 E2.ej lR) (H.2.2.2.2.1.a7 E2.ej lR)).mono ?_;rintro e A ⟨V,s,rfl,aQ,hO,bb⟩;obtain⟨aV,cV,eV⟩:=AF aQ;subst eV;have au:Ae (s=Cq p.aD):=by
  rcases hO with⟨_,e⟩|⟨e,_⟩
  . exact e
  exact absurd aw.o e
 have HO:Ae (Rd A 1 (Z aV s cV) s (Ad As s)/\∀z∈s,∃q:Nat,z=(q:Int)/\q<l):=⟨Rd.ij aQ,by rw[au,<-aj];exact(It p.aD p.aD [] (λz hz=>by cases hz)).1⟩
 have bV:s.length<=1048576:=by rw[au];have:=(It p.aD p.aD [] (λz hz=>by cases hz)).2;unfold Cq;simp at this;have:=aj.o;omega
 have O:=Av (E2.a7 bb);clear aQ hO bb E2 p0 p1 p2 p3;by_cases aR:s.length=0;case pos=>
  have bL:((s:Int)==0)=true:=by rw[beq_iff_eq];omega
  have ao:Ae (Np p 2 0 0 [] []):=.inr (.inl ⟨aw,by rw[<-au];exact List.length_eq_zero_iff.1 aR,rfl,rfl,rfl,rfl,rfl⟩);obtain⟨a0,F,I,L,N⟩:=BE O.rb;obtain⟨aE,aF,aG,aH,aI⟩:=Ha O.rb;go_wp2_with fail;have G:Ae _:=((((O.rb.set 0 (iZ 2)).set 1 (iZ 0)).set 2 (iZ 0)).set 3 sN).set 4 sN;simp only[lM,lU,lX]at G;clear a0 F I L N;obtain⟨a0,F,I,L,N⟩:=BE G;exact lO (v:=Am #[iZ 2,iZ 0,iZ 0,sN,sN]) (by simp[results,results24,go_sem,a0,F,I,L,N]) rfl ⟨2,0,0,sN,sN,[],[],rfl,ao,LE _ _,O.j9 _ _ _ _ _⟩
 have bL:((s:Int)==0)=false:=by rw[o9];omega
 have bI:=Av aR;obtain⟨gk,ok,ef⟩:∃gk ok,f1=K ⟨gk,ok,M⟩:=by
  obtain⟨z,hz⟩:∃z,s[0]?=K z:=⟨_,an oM⟩;obtain⟨q,_,hq⟩:=HO.2 z (lA hz);obtain⟨gk,ok,ck,aZ,_⟩:=Hr H.2.2.1.aD (an (show q< ↑p.aD by rw[aj];exact hq))
  simp only[lB]at aZ;exact⟨gk,ok,aZ.1⟩
 subst ef;clear aR;have aX:Ae (Dm A ⟨Z r1 X r3,Z Q T R,sO gk ok p.aD f3,Z t1 nt t3⟩ p/\MG A (sO gk ok p.aD f3) p.aD):=by rw[aj];exact⟨H.2.2.1.a7 O.ej lR,H.2.2.2.2.2.a7 O.ej⟩
 obtain⟨p0,p1,p2,p3⟩:=A7 O.pb;have ah:(w:Nat)+1<A.heap.size:=O.rb.lt;go_upto_region 6 with fail
 go_cut [6] (λsl wx=>∃KB gC gD:Nat,sl=.pointer KB/\Ae (G9 A wx KB ⟨r1,X,r3⟩ ⟨Q,T,R⟩ ⟨t1,nt,t3⟩ gk ok f3 gC l gD l l (List.replicate l 0) (List.replicate l 0)))
 case first=>
  obtain⟨p0,p1,p2,p3⟩:=A7 (O.a7 (At A)).pb;obtain⟨wA,eA,oA,gA⟩:=run_make_full (P:=Ap) A.drew A 29 2 k0 (iZ 0) 1 underlying29 bj bB bC Af Af l (by rw[bF];omega) oX lR;obtain⟨bY,bR,aS,aJ⟩:=run_make_full (P:=Ap) wA A 29 2 k0 (iZ 0) 1 underlying29 bj bB bC Af Af l (by rw[bF];omega) oX gA.size;rw[SE]at oA aS;have bq:(A.drew:Nat)≠wA.heap.size:=by obtain⟨_,bQ,e⟩:=AD oA;have:=(lK.1 e).1;omega
  have bA:Ah A A wA:=Ar (At A) lR (BD gA);have B:=Av (d5 (Aw oA (BD aJ) lR) (d5 aS (d5 bq (d5 bA (Ar bA lR (BD aJ))))));clear oA aS gA aJ bq bA p0 p1 p2 p3;have am:Ae (∀W:Y,Ah A A W->W w=K (Z r1 X r3)/\W ⟨w,1,M⟩=K (Z Q T R)/\W ⟨w,2,M⟩=K (sO gk ok l f3)/\W ⟨w,3,M⟩=K (Z t1 nt t3)):= λW hW=>A7 (O.a7 hW).pb
  refine wp_region_held_drew (S:= λW=>W w=K (Z r1 X r3)/\W ⟨w,1,M⟩=K (Z Q T R)/\W ⟨w,2,M⟩=K (sO gk ok l f3)/\W ⟨w,3,M⟩=K (Z t1 nt t3)) kR (am.o _ (At _)) (λae=> ?_)
  refine AH 0 ?_;refine AH 1 ?_;refine AH 2 ?_;refine AH 3 ?_;refine AH 4 ?_;refine AH 6 ?_;refine AH 7 ?_;refine AH 8 ?_;refine wpAnyH_ready (rs:=[5,9]) kR sP ?_;refine AllReadyH.cons rfl (λE m=> ?_) (AllReadyH.cons rfl (λE m=> ?_) AllReadyH.nil);focus
   go_simp;refine m.o _ _ (am.o _ B.2.2.2.1) (λae=> ?_);clear m E;refine CX 9 ?_;intro E m;go_simp;refine m.o _ _ (am.o _ B.2.2.2.2) (λae=> ?_);clear m E;refine AH 10 ?_;refine CX 11 ?_;intro E m;go_simp;refine m.o _ _ (am.o _ (Ar B.2.2.2.2 lR (Aq _ _))) (λae=> ?_);clear m E;refine CX 12 ?_;intro E m;go_simp;refine m.o _ _ (am.o _ (Ar B.2.2.2.2 lR (Aq _ _))) (λae=> ?_);clear m E;refine wpAnyH_done kR ?_ _;clear ae;go_wp2_with fail;go_meet;exact⟨_,_,_,rfl,G9.new (r:=⟨r1,X,r3⟩) (k:=⟨Q,T,R⟩) (t:=⟨t1,nt,t3⟩) (gk:=gk) (ok:=ok) (fc:=f3) B.1 B.2.1 B.2.2.1 B.2.2.2.2⟩
  focus
   go_simp;refine m.o _ _ (am.o _ B.2.2.2.1) (λae=> ?_);clear m E;refine CX 5 ?_;intro E m;go_simp;refine m.o _ _ (am.o _ B.2.2.2.2) (λae=> ?_);clear m E;refine AH 10 ?_;refine CX 11 ?_;intro E m;go_simp;refine m.o _ _ (am.o _ (Ar B.2.2.2.2 lR (Aq _ _))) (λae=> ?_);clear m E;refine CX 12 ?_;intro E m;go_simp;refine m.o _ _ (am.o _ (Ar B.2.2.2.2 lR (Aq _ _))) (λae=> ?_);clear m E;refine wpAnyH_done kR ?_ _;clear ae;go_wp2_with fail;go_meet;exact⟨_,_,_,rfl,G9.new (r:=⟨r1,X,r3⟩) (k:=⟨Q,T,R⟩) (t:=⟨t1,nt,t3⟩) (gk:=gk) (ok:=ok) (fc:=f3) B.2.1 B.1 B.2.2.1.symm B.2.2.2.2⟩
 case rest=>
 obtain⟨KB,gC,gD,rfl,aW⟩:=hcut;clear p0 p1 p2 p3;have aT:Ae (∀c g a C1 D1,Pw p ((s.drop 0).map Int.toNat) (List.replicate l 0) (List.replicate l 0) c g a C1 D1->Np p c g a C1 D1):= λc g a C1 D1 h=>.inr (.inr ⟨aw, λe=>bI.o (by rw[au,e];rfl),List.replicate l 0,List.replicate l 0,by rw[nH];exact aj.symm,by rw[nH];exact aj.symm,by rw[<-au];exact h⟩)
 go_wp2_with fail;go_loopw [35] (λi wr=>∃(j:Nat) (C D:List Int),j<= ↑s/\i=iZ j/\Ae (∀c g a C1 D1,Pw p ((s.drop j).map Int.toNat) C D c g a C1 D1->Np p c g a C1 D1)/\Ae (G9 A wr KB ⟨r1,X,r3⟩ ⟨Q,T,R⟩ ⟨t1,nt,t3⟩ gk ok f3 gC l gD l l C D)) (λi _=> ↑s-(intOf i).toNat)
 case atStart=>exact⟨0,_,_,oM,rfl,aT,aW⟩
 case round=>
 clear aT aW;obtain⟨j,C,D,hj,rfl,aA,EK⟩:=hrel;by_cases bJ:j< ↑s
 case neg=>
  have ao:=Av (aA.o _ _ _ _ _ (by rw[oF oM];exact .nil));have E5:=Av (O.a7 EK.ej);have EB:=Av (d5 E5.o EK.o);have bx:=O.ej.size;have bG:Ae (∀x0 x1 x2 x3 x4,Cl (Aa (Aa (Aa (Aa (Aa wr ⟨(w:Nat)+1,0,M⟩ x0) ⟨(w:Nat)+1,1,M⟩ x1) ⟨(w:Nat)+1,2,M⟩ x2) ⟨(w:Nat)+1,3,M⟩ x3) ⟨(w:Nat)+1,4,M⟩ x4) w [(sG gC l l,C),(sG gD l l,D)]):= λx0 x1 x2 x3 x4=>⟨λx hx=>by
   rcases lw.1 hx with rfl|hx
   . have:=A9 (lV (lV (lV (lV (lV EB.2.c (a:=⟨(w:Nat)+1,0,M⟩) ah x0) (a:=⟨(w:Nat)+1,1,M⟩) ah x1) (a:=⟨(w:Nat)+1,2,M⟩) ah x2) (a:=⟨(w:Nat)+1,3,M⟩) ah x3) (a:=⟨(w:Nat)+1,4,M⟩) ah x4) bx;simp only[EB.2.cl];exact this
   . rw[mz.1 hx];have:=A9 (lV (lV (lV (lV (lV EB.2.d (a:=⟨(w:Nat)+1,0,M⟩) ah x0) (a:=⟨(w:Nat)+1,1,M⟩) ah x1) (a:=⟨(w:Nat)+1,2,M⟩) ah x2) (a:=⟨(w:Nat)+1,3,M⟩) ah x3) (a:=⟨(w:Nat)+1,4,M⟩) ah x4) bx;simp only[EB.2.dl];exact this,by
   refine .cons (λy hy=> ?_) (.cons (λy hy=>by cases hy) .nil);rw[mz.1 hy];intro g hg e;(cases hg);(cases e);exact EB.2.ne rfl⟩
  obtain⟨a0,F,I,L,N⟩:=BE EB.1.rb;obtain⟨aE,aF,aG,aH,aI⟩:=Ha EB.1.rb;obtain⟨_,_,_,_,_,b5,b6⟩:=EB.2.cells;have G:Ae _:=((((E5.rb.set 0 (iZ 0)).set 1 (iZ 0)).set 2 (iZ 0)).set 3 (sG gC l l)).set 4 (sG gD l l);simp only[lM,lU,lX]at G;have G2:=Av (AA.a7 (b:=(w:Nat)+1) (t:=31) G (At _));go_upto_region 14 with fail
  go_region;all_goals go_wp2_with fail
  all_goals clear a0 F I L N
  all_goals obtain⟨a0,F,I,L,N⟩:=BE G2
  all_goals exact lO (v:=Am #[iZ 0,iZ 0,iZ 0,sG gC l l,sG gD l l]) (by simp[results,results24,go_sem,a0,F,I,L,N]) rfl ⟨0,0,0,_,_,C,D,rfl,ao,(bG.o _ _ _ _ _).jn (At _),Ar (E5.j9 _ _ _ _ _) lR (At _)⟩
 have bT:(j:Int)<(s:Int):=oM;obtain⟨z,hz⟩:∃z,s[j]?=K z:=⟨_,an bJ⟩;obtain⟨q,eq,hq⟩:=HO.2 z (lA hz);subst eq;obtain⟨ga,oa,ea,kz⟩:∃ga oa,aV=K ⟨ga,oa,M⟩/\wr ⟨ga,oa+j,M⟩=K ↑q:=by
  rcases(HO.1.a7 EK.ej lR).2 with⟨e0,_⟩|⟨g1,o1,bP,e1,hc⟩
  . omega
  simp only[lB,mB]at e1;exact⟨g1,o1,e1.1,hc j _ (Di hz)⟩
 subst ea;have aU:Ae ((s.drop j).map Int.toNat=q::(s.drop (j+1)).map Int.toNat):=by obtain⟨l1,e1⟩:=i8.1 hz;show(s.drop j).map Int.toNat=_;rw[mq l1,e1,nQ,lD]
 clear hz;have aY:Ae (Ai Ap 55 #[.pointer KB,q] wr (TkR p q C D A KB ⟨r1,X,r3⟩ ⟨Q,T,R⟩ ⟨t1,nt,t3⟩ gk ok f3 gC l gD l l)):=by have:=Wf p q KB ⟨r1,X,r3⟩ ⟨Q,T,R⟩ ⟨t1,nt,t3⟩ gk ok f3 gC l gD l C D A wr H.1 H.2.1 aw aX.1 aX.2 (by rw[aj];exact hq) (by rw[aj];exact EK);rw[aj]at this;exact this
 go_wp2_with fail;refine aY.mono ?_;rintro e u5 ⟨rc,ra,rv,rd,C',D',rfl,bt,bu,bp⟩;have aq:=Av (d5 bt (d5 bu bp));clear bt bu bp kz aY;by_cases aM:rc=0;case pos=>
  subst aM;have bH:Ae (∀c g a C1 D1,Pw p ((s.drop (j+1)).map Int.toNat) C' D' c g a C1 D1->Np p c g a C1 D1):= λc g a C1 D1 h=>aA.o c g a C1 D1 (by obtain⟨rfl,rfl⟩:=aq.2.1 rfl;rw[aU];have e:=aq.1.a0;exact .step (e▸aq.1) h)
  go_wp2_with fail;go_roundw;case rel=>exact⟨j+1,C',D',oM,by go_num,bH,aq.2.2⟩
  exact oI
 have bS:(rc != 0)=true:=by simpa using aM
 have ao:=Av (aA.o _ _ _ _ _ (by rw[aU];exact .bad aq.1 aM));have E5:=Av (O.a7 aq.2.2.ej);obtain⟨a0,F,I,L,N⟩:=BE E5.rb;obtain⟨aE,aF,aG,aH,aI⟩:=Ha E5.rb;go_wp2_with fail;have G:Ae _:=((((E5.rb.set 0 rc).set 1 q).set 2 ra).set 3 sN).set 4 sN;simp only[lM,lU,lX]at G;clear a0 F I L N;obtain⟨a0,F,I,L,N⟩:=BE G;exact lO (v:=Am #[rc,q,ra,sN,sN]) (by simp[results,results24,go_sem,a0,F,I,L,N]) rfl ⟨rc,(q:Int),ra,sN,sN,[],[],rfl,ao,LE _ _,E5.j9 _ _ _ _ _⟩
theorem Cl.j7{u:Y}{b:Nat}(h:Cl u b L)(c:a.block<b)(x:J):Cl (u.setCell a x) b L:=⟨λy d=>lV (h.own y d) c x,h.sep⟩
theorem Cl.base{u:Y}{b a:Nat}(h:Cl u b L)(c:a<=b):Cl u a L:=⟨λy d=>A9 (h.own y d) c,h.sep⟩
theorem IK(v:VP)(p:MP)(w:Y)(hs:p.small)(hw:p.wf)(h:Dm w v p)(ae:Jp w v.r p.aC)(aj:MH w v.f p.aD)(ah:MG w v.f p.aD):
 Ai Ap 7 #[Am #[v.r,v.k,v.f,v.t]] w (BoI p w):=by
 have H:=Av (d5 hs (d5 hw (d5 h (d5 ae (d5 aj ah)))));obtain⟨F,I,x,y,L,N,f1,f3,rfl⟩:=h.sl;clear hs hw h ae aj ah;generalize p.aD.length=z at H⊢;generalize p.aC.length=B at H⊢;generalize p.dk.length=A at H⊢;generalize p.e8.length=E at H⊢;simp only[]at H;have j:=Bu w #[Z F B I,Z x A y,Z f1 z f3,Z L E N] #[iZ 0,iZ 0,iZ 0,sN,sN] 37 31;go_enter func7,ntmps7;go_upto_region 1 with fail
 refine Ax (λu=>Ae (XK w u #[Z F B I,Z x A y,Z f1 z f3,Z L E N])) ⟨j.1,j.2.1,j.2.2⟩ ?_;rintro U b;clear j;obtain⟨p0,p1,p2,p3⟩:=A7 b.pb;go_wp2_with fail;refine(PQ ⟨Z F B I,Z x A y,Z f1 z f3,Z L E N⟩ p U H.1 H.2.1 (H.2.2.1.a7 b.ej lR) (H.2.2.2.1.a7 b.ej lR) (H.2.2.2.2.1.a7 b.ej lR) (H.2.2.2.2.2.a7 b.ej)).mono ?_;rintro e u1 ⟨c,g,a,vC,vD,C,D,rfl,X,l,R⟩;obtain⟨P,S,V⟩:=AF (l.own (vC,C) sP);obtain⟨Q,T,W⟩:=AF (l.own (vD,D) sP);simp only[]at V W;subst V W;have O:=Av (d5 X l);have d:=Av (d5 (b.a7 R) (d5 b.rb.lt b.ej.size));clear X l R b p0 p1 p2 p3;obtain⟨a0,m,n,q,s⟩:=BE d.1.rb;obtain⟨am,ao,aq,au,aw⟩:=Ha d.1.rb;generalize aA:C.length=lc at*;generalize aE:D.length=ld at*;go_wp2_with fail;have G:Ae _:=((((d.1.rb.set 0 c).set 1 g).set 2 a).set 3 (Z P lc S)).set 4 (Z Q ld T);simp only[lM,lU,lX]at G;clear a0 m n q s;obtain⟨a0,m,n,q,s⟩:=BE G;have i:=d.2.1;exact lO (v:=Am #[c,g,a,Z P lc S,Z Q ld T]) (by simp[results,results7,go_sem,a0,m,n,q,s]) rfl ⟨c,g,a,_,_,C,D,rfl,O.1,(((((O.2.j7 (a:=⟨(w:Nat)+1,0,M⟩) i _).j7 (a:=⟨(w:Nat)+1,1,M⟩) i _).j7 (a:=⟨(w:Nat)+1,2,M⟩) i _).j7 (a:=⟨(w:Nat)+1,3,M⟩) i _).j7 (a:=⟨(w:Nat)+1,4,M⟩) i _).base d.2.2,d.1.j9 _ _ _ _ _⟩
theorem IQ(base:Nat)(s:J)(b:List Int)(a:Int)(w:Y)(B:b.length<=1048576)(D:0<=a)(E:a<=1152921504606846976)(h:Ab w base 2 1 s b (Ad As b)):
 Ai Ap 34 #[s,a] w λe u=>e=Al (iZ (a+(b:Int)))/\Ab u base 2 1 s b (Ad As (Bw a b))/\w.grownBy u s.ownBlock:=by
 have H:Ae (Ab w base 2 1 s b (Ad As (Dw a b 0))):=by show World.ownsRow _ _ _ _ _ _ _;rw[OV];exact h
 rcases Bo h with⟨rfl,C⟩|⟨g,c,rfl⟩
 . clear h;rw[C]at H⊢;have y:Ae (Ab w base 2 1 (Z M 0 0) 0 (Ad As (Bw a 0))):=mI _ _ _ _;go_enter func34,ntmps34;go_wp2;go_loopw [1,5] (λq i wr=>q=iZ a/\i=iZ 0/\wr=w) (λ_ _ _=>0)
   (case atStart=>exact⟨rfl,rfl,rfl⟩);obtain⟨rfl,rfl,rfl⟩:=hrel;go_wp2;go_ret;exact⟨sP,y,⟨rfl,rfl,rfl,Nat.le_refl _, λ_ _ _=>rfl⟩⟩
 clear h;generalize r:b.length=n at B H⊢;have l:=Av r;clear r;go_enter func34,ntmps34;go_wp2;go_loopw [1,5] (λq i wr=>∃k:Nat,k<=n/\q=iZ (a+k)/\i=iZ k/\Ae (Ab wr base 2 1 (sG g n c) n (Ad As (Dw a b k))/\w.grownBy wr (K g))) (λ_ i _=>n-(intOf i).toNat)
 case atStart=>exact⟨0,oM,sP,rfl,H,⟨rfl,rfl,rfl,Nat.le_refl _, λ_ _ _=>rfl⟩⟩
 obtain⟨k,F,rfl,rfl,d⟩:=hrel;by_cases A:k<n
 . obtain⟨x,f⟩:∃x,b[k]?=K x:=⟨_,an (by rw[l];exact A)⟩;(have p:(Ad As (Bw a k)).length=k:=by rw[AE As 1 Ay,Dq,mO]);have m:=d.1.cellAt k oM;rw[IP a b k x f,lY oM,p,nM]at m;simp only[As,mM,lC]at m;have G:=d.1.frozenAt k;have v:Ae (Ab (Aa wr ⟨g,k,M⟩ (iZ (a+k))) base 2 1 (sG g n c) n (Ad As (Dw a b (k+1)))/\w.grownBy (Aa wr ⟨g,k,M⟩ (iZ (a+k))) (K g)):=by refine⟨?_,LK d.2 _ _⟩;have t:=(d.1.stored k (iZ (a+k))).1;rw[OU a b k x f]at t;exact t
   clear p f;go_wp2;go_roundw;(case rel=>exact⟨k+1,oM,by go_num,by go_num,v⟩);exact oI
 have z:k=n:=oM;subst z;have j:Ae (Ab wr base 2 1 (sG g k c) k (Ad As (Bw a k))/\w.grownBy wr (K g)):=by have:=d.o;rw[Qt a b k l]at this;exact this
 go_wp2;go_ret;exact⟨rfl,j.1,j.2⟩
theorem IJ(s:J)(n:Nat)(a:Int)(w:Y)(z:n<=1048576)(v:0<=a)(x:a<=1152921504606846976)(h:Rd w 1 s n (Ad As (Bw a n))):
 Ai Ap 35 #[s,a] w λe r=>e=Al (iZ (a+(n:Int)))/\r=w:=by
 have j:=Av h;obtain⟨t,c1,rfl⟩:=h.bW;clear h;go_enter func35,ntmps35;go_wp2;go_loopw [1,5] (λq i wr=>∃k:Nat,k<=n/\q=iZ (a+k)/\i=iZ k/\wr=w) (λ_ i _=>n-(intOf i).toNat)
 case atStart=>exact⟨0,oM,sP,rfl,rfl⟩
 obtain⟨k,y,rfl,rfl,rfl⟩:=hrel;by_cases m:k<n
 . (have f:(Bw a n)[k]?=K (a+(k:Int)):=by simp[Bw,m]);rcases j.2 with⟨u,_⟩|⟨g,o,c,b,d⟩
   . omega
   simp only[lB,mB]at b;obtain⟨rfl,rfl⟩:=b;have p:=Rd.elem Ay d k _ f 0 _ rfl;rw[mO,lJ]at p;clear d f;go_wp2;go_roundw;(case rel=>exact⟨k+1,oM,by go_num,by go_num,by trivial⟩);exact oI
 have l:k=n:=oM;subst l;go_wp2;go_ret;exact⟨rfl,rfl⟩
theorem Dy(c g a:Int)(f h i j:J)(C D:List Int)(w:Y)(x:C.length<=1048576)(y:D.length<=1048576)(t:Rd w 1 f C (Ad As C))(v:Rd w 1 h D (Ad As D))(z:Rd w 1 i C (Ad As C))(A:Rd w 1 j D (Ad As D)):
 Ai Ap 8 #[.agg #[c,g,a,f,h],.agg #[c,g,a,i,j]] w λe F=>e=Al true/\Ah w w F:=by
 have r:=Bu w #[c,g,a,f,h] #[c,g,a,i,j] 31 31;have H:=Av (d5 x (d5 y (d5 t (d5 v (d5 z A)))));clear x y t v z A;go_enter func8,ntmps8;go_upto_region 1 with fail
 refine Ax (λu=>Ae (AA u w #[c,g,a,f,h] 31/\AA u ((w:Nat)+1) #[c,g,a,i,j] 31/\Ah w w u)) r ?_
 rintro U b;clear r;obtain⟨c0,c1,c2,c3,c4⟩:=BE b.1;obtain⟨l,m,n,p,q⟩:=BE b.2.1;go_wp2_with fail;refine(Dp f i C U (by have:=H.1;omega) (H.2.2.1.a7 b.2.2 lR) (H.2.2.2.2.1.a7 b.2.2 lR)).mono ?_;rintro e E ⟨rfl,k⟩;have d:=Av (d5 (b.1.a7 k) (d5 (b.2.1.a7 k) (Ar b.2.2 lR k)));clear k b c0 c1 c2 c3 c4 l m n p q;obtain⟨c0,c1,c2,c3,c4⟩:=BE d.1;obtain⟨l,m,n,p,q⟩:=BE d.2.1;go_wp2_with fail;refine(Dp h j D E (by have:=H.2.1;omega) (H.2.2.2.1.a7 d.2.2 lR) (H.2.2.2.2.2.a7 d.2.2 lR)).mono ?_;rintro e G ⟨rfl,s⟩;have B:=Av (Ar d.2.2 lR s);clear s d c0 c1 c2 c3 c4 l m n p q;go_wp2;go_ret;exact⟨rfl,B⟩
def Zt(a b:J)(C D:List Int):List (J×List Int):=[(a,Bw 1 C),(b,Bw (1+(C:Int)) D)]
theorem Je(base:Nat)(c g a:Int)(b d:J)(C D:List Int)(w:Y)(r:base<= ↑w)(s:C.length<=1048576)(v:D.length<=1048576)(h:Cl w base [(b,C),(d,D)]):
 Ai Ap 11 #[.agg #[c,g,a,b,d],iZ 1] w λe q=>e=Al (iZ (1+(C:Int)+(D:Int)))/\Cl q base (Zt b d C D)/\Ah base w q/\(∀(k:Nat) (j:Array J) (t:Aj),w.heap[k]?=K (Obj.cells j t (0,0))->t≠2->q.heap[k]?=K (Obj.cells j t (0,0))):=by
 have H:=Av (d5 r (d5 s (d5 v h)));clear r s v h;go_enter func11,ntmps11;go_upto_region 1 with fail
 refine Ax (λu=>Ae (AA u w #[c,g,a,b,d] 31/\Ah w w u)) ⟨AA.new _ _ _,Aq _ _⟩ ?_
 rintro U f;obtain⟨c0,c1,c2,c3,c4⟩:=BE f.1;go_wp2_with fail;have n:=H.2.2.2.jn f.2;refine(IQ base b C 1 U H.2.1 oM oM (n.own (b,C) sP)).mono ?_;rintro e z ⟨rfl,m,l⟩;have hw:=Wv.jM (n.own (b,C) sP) l (lQ H.1 f.2.size);have i:=Av (d5 (hw.ie _ _ _ f.1 dC) (d5 (n.put (A:=[]) (B:=[(d,D)]) (Dq _ _) m l) (d5 hw (lQ H.1 (lQ f.2.size hw.ej.size)))));clear m l hw n c0 c1 c2 c3 c4;obtain⟨c0,c1,c2,c3,c4⟩:=BE i.1;have F:=H.2.1;go_wp2_with fail;refine(IQ base d D (1+(C:Int)) z H.2.2.1 oM oM (i.2.1.own (d,D) sP)).mono ?_;rintro e E ⟨rfl,m,l⟩;have hw:=i.2.2.1.trans (Wv.jM (i.2.1.own (d,D) sP) l i.2.2.2);have p:=Av (d5 (i.2.1.put (A:=[(b,Bw 1 C)]) (B:=[]) (Dq _ _) m l) (d5 ((f.2.mono H.1).trans hw.ej) ((λk j t x y=>hw.ie k j t (by rw[f.2.block k (lK.1 x).1];exact x) y):(∀(k:Nat) (j:Array J) (t:Aj),w.heap[k]?=K (Obj.cells j t (0,0))->t≠2->E.heap[k]?=K (Obj.cells j t (0,0))))));clear m l hw i c0 c1 c2 c3 c4;go_wp2;go_ret;exact⟨rfl,p.1,p.2.1,p.2.2⟩
theorem FJ(base:Nat)(c g a:Int)(b d:J)(C D:List Int)(w:Y)(k:C.length<=1048576)(l:D.length<=1048576)(h:Cl w base (Zt b d C D)):
 Ai Ap 12 #[.agg #[c,g,a,b,d],iZ 1] w λe n=>e=Al (iZ (1+(C:Int)+(D:Int)))/\Ah w w n:=by
 have i:=Rd.ij (h.own (b,Bw 1 C) (by simp[Zt]));have j:=Rd.ij (h.own (d,Bw (1+(C:Int)) D) (by simp[Zt]));simp only[Dq]at i j;have H:=Av (d5 i j);have p:¬1+(C:Int)<0:=oM;have q:¬1+(C:Int)+(D:Int)<0:=oM;clear h i j;go_enter func12,ntmps12;go_upto_region 1 with fail
 refine Ax (λu=>Ae (AA u w #[c,g,a,b,d] 31/\Ah w w u)) ⟨AA.new _ _ _,Aq _ _⟩ ?_
 rintro U f;obtain⟨c0,c1,c2,c3,c4⟩:=BE f.1;go_wp2_with fail;refine(IJ b C 1 U k oM oM (H.1.a7 f.2 lR)).mono ?_;rintro e m ⟨rfl,rfl⟩;go_wp2_with fail;refine(IJ d D (1+(C:Int)) m l oM oM (H.2.a7 f.2 lR)).mono ?_;rintro e r ⟨rfl,rfl⟩;clear c0 c1 c2 c3 c4;go_wp2;go_ret;exact⟨rfl,f.2⟩
def XW(u:Y)(s1 s2:J)(C D:List Int):Prop:=Rd u 1 s1 C (Ad As C)/\Rd u 1 s2 D (Ad As D)
theorem XW.a7{u u':Y}{s1 s2:J}{C D:List Int}(h:XW u s1 s2 C D){n:Nat}(a:Ah n u u')(b: ↑u<=n):XW u' s1 s2 C D:=⟨h.1.a7 a b,h.2.a7 a b⟩
structure Nq(u:Y)(b:Nat)(s1 s2:J)(C D:List Int):Prop where
 io:Cl u b [(s1,C),(s2,D)]
section
variable {u u':Y} {b:Nat} {s1 s2:J} {C D:List Int}
theorem Nq.a7(h:Nq u b s1 s2 C D)(a:Ah u u u'):Nq u' b s1 s2 C D:=⟨h.io.jn a⟩
theorem Nq.rd(h:Nq u b s1 s2 C D):XW u s1 s2 C D:=⟨Rd.ij (h.io.own (s1,C) sP),Rd.ij (h.io.own (s2,D) sP)⟩
theorem Nq.marks{lo a:Nat}(h:Nq u b s1 s2 C D)(e:EQ lo a u u')(c:a<=b):Nq u' b s1 s2 C D:=⟨⟨λy d=>e.own (h.io.own y d) c,h.io.sep⟩⟩
end
theorem AA.marks{u u':Y}{a lo c:Nat}{b:Array J}(h:AA u a b t)(f:EQ lo c u u')(d:c<=a):AA u' a b t:=by have e:=h.lt;unfold AA at*;rw[f.o a e (.inr d)];exact h
theorem Pw.len{o:List Nat}{C D b d:List Int}{c g a:Int}(h:Pw p o C D c g a b d):(b.length= ↑C\/b=[])/\(d.length= ↑D\/d=[]):=by
 induction h with
 |nil=>exact⟨.inl rfl,.inl rfl⟩
 |bad _ _=>exact⟨.inr rfl,.inr rfl⟩
 |step _ _ e=>rw[mZ,mZ]at e;exact e
theorem Np.len{c g a:Int}{C D:List Int}(h:Np p c g a C D)(f:p.small):C.length<=1048576/\D.length<=1048576:=by
 have:=f.aD;rcases h with⟨_,_,_,_,rfl,rfl⟩|⟨_,_,_,_,_,rfl,rfl⟩|⟨_,_,i,j,k,l,e⟩
 . simp
 . simp
 obtain⟨b,d⟩:=e.len;constructor
 . rcases b with b|rfl
   . omega
   simp
 rcases d with d|rfl
 . omega
 simp
theorem RK(j:VP)(b:MP)(w:Y)(h0:Dm w j b)(b0:b.fits)(f0:b.wf):
 Ai Ap 3 #[Am #[j.r,j.k,j.f,j.t]] w λe m=>e=Al true/\Ah w w m:=by
 have X:=Av (d5 b0 (d5 h0 f0));clear b0 f0 h0;go_enter func3,ntmps3;go_upto_region 1 with fail
 refine Ax (λu=>Ae (AA u w #[j.r,j.k,j.f,j.t] 27/\Ah w w u)) ⟨AA.new _ _ _,Aq _ _⟩ ?_
 rintro U0 E1;obtain⟨i0,i1,i2,i3⟩:=A7 E1.1;go_wp2_with fail;refine(Nk j b 1048576 U0 X.1 (X.2.1.a7 E1.2 lR) oM oM).mono ?_;rintro e u1 ⟨r1,rfl,aH,bF⟩;have E2:=Av (d5 (E1.1.a7 bF) (Ar E1.2 lR bF));clear bF E1 i0 i1 i2 i3;rcases aH with rfl|⟨d6,aH,cj⟩
 . go_wp2_with fail;go_ret;exact⟨rfl,E2.2⟩
 have V:Ae b.small:=cj;clear cj;have d7:¬r1<0:=oM;obtain⟨i0,i1,i2,i3⟩:=A7 E2.1;go_wp2_with fail;refine(Eu j b u1 V (X.2.1.a7 E2.2 lR)).mono ?_;rintro e u2 ⟨a1,c1,a2,c2,a3,c3,a4,c4,rfl,cw,bG⟩;have E3:=Av (d5 (E2.1.a7 bG) (d5 (Ar E2.2 lR bG) cw.rd));clear cw bG E2 i0 i1 i2 i3;go_wp2_with fail;refine(Pd ⟨Z a1 b.aC c1,Z a2 b.dk c2,Z a3 b.aD c3,Z a4 b.e8 c4⟩ b u2 V X.2.2 E3.2.2).mono ?_;rintro e u3 ⟨c,g,a,vC,vD,C,D,rfl,hy,bH,aH,bJ⟩;obtain⟨wa,wc,v⟩:=aH.bW;obtain⟨wb,wd,x⟩:=bJ.bW;subst v x;have cg:XW u3 (Z wa C wc) (Z wb D wd) C D:=⟨aH,bJ⟩;have E4:=Av (d5 (E3.1.a7 bH) (d5 (Ar E3.2.1 lR bH) cg));have HY:=Av hy;have y:=Av (hy.len V);clear hy cg aH bJ bH E3;go_upto_region 6 with fail
 refine Ax (λu=>Ae (AA u w #[j.r,j.k,j.f,j.t] 27/\Ah w w u/\XW u (Z wa C wc) (Z wb D wd) C D/\AA u u3 #[c,g,a,Z wa C wc,Z wb D wd] 31)) ⟨E4.1.a7 (Aq _ _),Ar E4.2.1 lR (Aq _ _),E4.2.2.a7 (Aq _ _) lR,AA.new _ _ _⟩ ?_
 rintro n s;generalize u3.heap.size=WB at s⊢;clear E4;clear u3;obtain⟨i0,i1,i2,i3⟩:=A7 s.1;go_wp2_with fail;refine(Eu j b n V (X.2.1.a7 s.2.1 lR)).mono ?_;rintro e l ⟨O,v,P,x,Q,z,R,E,rfl,cE,bR⟩;have X5:=Av (d5 cE bR);clear cE bR i0 i1 i2 i3;go_upto_region 7 with fail
 refine Ax (λu=>Ae (AA u l #[Z O b.aC v,Z P b.dk x,Z Q b.aD z,Z R b.e8 E] 37/\Ah l l u/\(l:Nat)+1= ↑u)) ⟨AA.new _ _ _,Aq _ _,sP⟩ ?_
 rintro U6 E7;obtain⟨j0,j1,j2,j3⟩:=A7 E7.1;go_wp2_with fail;have XO:=X5.1.a7 E7.2.1 lR;refine(IK ⟨Z O b.aC v,Z P b.dk x,Z Q b.aD z,Z R b.e8 E⟩ b U6 V X.2.2 XO.rd XO.aC.rdc XO.aD.rdp XO.aD.rdk).mono ?_;rintro e u7 ⟨c',g',a',vG,vH,C',D',rfl,aX,ae,br⟩;obtain⟨rfl,rfl,rfl,rfl,rfl⟩:=HY.one aX;obtain⟨d,i,aT⟩:=AF (ae.own (vG,C) sP);obtain⟨gb,gd,aU⟩:=AF (ae.own (vH,D) sP);simp only[]at aT aU;subst aT aU;have bI:Nq u7 U6 (Z d C i) (Z gb D gd) C D:=⟨ae⟩;obtain⟨q,aG⟩:∃B,B=U6.heap.size:=⟨_,rfl⟩;rw[<-aG]at bI;have aS:Ae (↑l+1=q/\q<= ↑u7):=⟨by rw[aG];exact E7.2.2,by rw[aG];exact br.size⟩
 have E8:=Av (d5 (Ar E7.2.1 lR br) (d5 (E7.1.a7 br) bI));clear ae br bI aG E7 XO aX j0 j1 j2 j3;go_upto_region 8 with fail
 have bC:Ae (Ah n n (Ac u7 (Ak #[c,g,a,Z d C i,Z gb D gd] 31))/\Ah l l (Ac u7 (Ak #[c,g,a,Z d C i,Z gb D gd] 31))/\AA (Ac u7 (Ak #[c,g,a,Z d C i,Z gb D gd] 31)) l #[Z O b.aC v,Z P b.dk x,Z Q b.aD z,Z R b.e8 E] 37/\AA (Ac u7 (Ak #[c,g,a,Z d C i,Z gb D gd] 31)) u7 #[c,g,a,Z d C i,Z gb D gd] 31/\Nq (Ac u7 (Ak #[c,g,a,Z d C i,Z gb D gd] 31)) q (Z d C i) (Z gb D gd) C D):=⟨Ar (Ar X5.2 lR E8.1) lR (Aq _ _),Ar E8.1 lR (Aq _ _),E8.2.1.a7 (Aq _ _),AA.new _ _ _,E8.2.2.a7 (Aq _ _)⟩
 obtain⟨GB,bT⟩:∃G,G=u7.heap.size:=⟨_,rfl⟩;rw[<-bT]at bC aS⊢;refine Ax (λu=>Ae (Ah n n u/\Ah l l u/\AA u l #[Z O b.aC v,Z P b.dk x,Z Q b.aD z,Z R b.e8 E] 37/\AA u GB #[c,g,a,Z d C i,Z gb D gd] 31/\Nq u q (Z d C i) (Z gb D gd) C D)) bC ?_
 rintro U8 T;clear E8 bC bT;obtain⟨F,H,I,L,N⟩:=BE T.2.2.2.1;obtain⟨k0,cT,k2,k3,k4⟩:=BE (s.2.2.2.a7 T.1);go_wp2_with fail;have p:=Av (d5 T.2.2.2.2.rd (s.2.2.1.a7 T.1 lR));refine(Dy c g a (Z d C i) (Z gb D gd) (Z wa C wc) (Z wb D wd) C D U8 y.1 y.2 p.1.1 p.1.2 p.2.1 p.2.2).mono ?_;clear p;rintro e u9 ⟨rfl,aF⟩;have am:=Av (d5 (Ar T.1 lR aF) (d5 (Ar T.2.1 lR aF) (d5 (T.2.2.1.a7 aF) (d5 (T.2.2.2.1.a7 aF) (T.2.2.2.2.a7 aF)))));clear aF T F H I L N k0 cT k2 k3 k4;go_upto_region 10 with fail
 have KS:∀m,AA m w #[j.r,j.k,j.f,j.t] 27->AA m l #[Z O b.aC v,Z P b.dk x,Z Q b.aD z,Z R b.e8 E] 37->m.cell? w=K (j.r)/\m.cell? ⟨w,1,M⟩=K (j.k)/\m.cell? ⟨w,2,M⟩=K (j.f)/\m.cell? ⟨w,3,M⟩=K (j.t)/\m.cell? l=K (Z O b.aC v)/\m.cell? ⟨l,1,M⟩=K (Z P b.dk x)/\m.cell? ⟨l,2,M⟩=K (Z Q b.aD z)/\m.cell? ⟨l,3,M⟩=K (Z R b.e8 E):= λm A B=>by obtain⟨q0,q1,q2,q3⟩:=A7 A;obtain⟨l0,l1,l2,l3⟩:=A7 B;exact⟨q0,q1,q2,q3,l0,l1,l2,l3⟩
 have U:=Av (d5 (Ar am.1 lR (At _)) (d5 (Ar am.2.1 lR (At _)) (d5 (am.2.2.1.a7 (At _)) (d5 (am.2.2.2.1.a7 (At _)) (am.2.2.2.2.a7 (At _))))));clear am;have b0:=KS _ (s.1.a7 U.1) U.2.2.1;refine wp_region_held_drew (S:= λm=>m.cell? w=K (j.r)/\m.cell? ⟨w,1,M⟩=K (j.k)/\m.cell? ⟨w,2,M⟩=K (j.f)/\m.cell? ⟨w,3,M⟩=K (j.t)/\m.cell? l=K (Z O b.aC v)/\m.cell? ⟨l,1,M⟩=K (Z P b.dk x)/\m.cell? ⟨l,2,M⟩=K (Z Q b.aD z)/\m.cell? ⟨l,3,M⟩=K (Z R b.e8 E)) kR b0 (λbt=> ?_)
 clear b0;generalize u9.drew=UD at U bt⊢;refine AH 0 ?_;refine AH 1 ?_;refine CX 2 ?_;intro KC aW;go_simp;refine(Eu j b UD V (X.2.1.a7 (Ar s.2.1 lR U.1) lR)).mono ?_;rintro e aI ⟨a1,c1,a2,c2,a3,c3,a4,c4,rfl,cu,aA⟩;have ao:=Av (d5 ((⟨Ar U.1 lR aA,Ar U.2.1 lR aA,U.2.2.1.a7 aA,U.2.2.2.1.a7 aA,U.2.2.2.2.a7 aA⟩):(Ah n n aI/\Ah l l aI/\AA aI l #[Z O b.aC v,Z P b.dk x,Z Q b.aD z,Z R b.e8 E] 37/\AA aI GB #[c,g,a,Z d C i,Z gb D gd] 31/\Nq aI q (Z d C i) (Z gb D gd) C D)) cu.rd)
 clear cu aA U;go_simp;refine aW.o _ _ (KS _ (s.1.a7 ao.1.1) ao.1.2.2.1) (λbt=> ?_);clear aW KC;refine CX 3 ?_;intro KC aW;go_simp;refine(LD ⟨Z O b.aC v,Z P b.dk x,Z Q b.aD z,Z R b.e8 E⟩ ⟨Z a1 b.aC c1,Z a2 b.dk c2,Z a3 b.aD c3,Z a4 b.e8 c4⟩ b aI V (X5.1.rd.a7 ao.1.2.1 lR) ao.2).mono ?_;rintro e aJ ⟨rfl,aE⟩;have W:Ae (Ah n n aJ/\Ah l l aJ/\AA aJ l #[Z O b.aC v,Z P b.dk x,Z Q b.aD z,Z R b.e8 E] 37/\AA aJ GB #[c,g,a,Z d C i,Z gb D gd] 31/\Nq aJ q (Z d C i) (Z gb D gd) C D):=by have aQ:=Av ao.1;exact⟨Ar aQ.1 lR aE,Ar aQ.2.1 lR aE,aQ.2.2.1.a7 aE,aQ.2.2.2.1.a7 aE,aQ.2.2.2.2.a7 aE⟩
 clear aE ao;go_simp;refine aW.o _ _ (KS _ (s.1.a7 W.1) W.2.2.1) (λbt=> ?_);clear aW KC;refine AH 4 ?_;refine wpAnyH_done kR ?_ _;clear bt KS;go_upto_region 13 with fail
 obtain⟨j0,j1,j2,j3⟩:=A7 W.2.2.1;go_wp2_with fail;refine(KY l n ⟨Z O b.aC v,Z P b.dk x,Z Q b.aD z,Z R b.e8 E⟩ b aJ V X5.1 W.2.1).mono ?_;rintro e bu ⟨⟨k1,rfl,cX,_⟩,mg⟩;have ah:Ae (Ah n n bu/\AA bu GB #[c,g,a,Z d C i,Z gb D gd] 31/\Nq bu q (Z d C i) (Z gb D gd) C D):=by have cQ:=X5.2.size;have cR:=W.2.1.size;exact⟨W.1.trans (mg.below oM),W.2.2.2.1.marks mg (by have:=aS.o;omega),W.2.2.2.2.marks mg (by have:=aS.o;omega)⟩
 clear mg W j0 j1 j2 j3;have cY:¬k1<0:=oM;have cZ:decide (k1<0)=false:=oT;obtain⟨F,H,I,L,N⟩:=BE ah.2.1;obtain⟨k0,bK,k2,k3,k4⟩:=BE (s.2.2.2.a7 ah.1);go_wp2_with fail;have p:=Av (d5 ah.2.2.rd (s.2.2.1.a7 ah.1 lR));refine(Dy c g a (Z d C i) (Z gb D gd) (Z wa C wc) (Z wb D wd) C D bu y.1 y.2 p.1.1 p.1.2 p.2.1 p.2.2).mono ?_;clear p;rintro e cG ⟨rfl,bg⟩;have aq:=Av (d5 (Ar ah.1 lR bg) (d5 (ah.2.1.a7 bg) (ah.2.2.a7 bg)));clear bg ah F H I L N k0 bK k2 k3 k4;obtain⟨F,H,I,L,N⟩:=BE aq.2.1;go_wp2_with fail;have aG:q<=cG.heap.size:=by have:=aS.2;have:=aq.2.1.lt;omega
 refine(Je q c g a (Z d C i) (Z gb D gd) C D cG aG y.1 y.2 aq.2.2.io).mono ?_;rintro e aY ⟨rfl,bY,bP,bV⟩;have bZ:Nq aY q (Z d C i) (Z gb D gd) (Bw 1 C) (Bw (1+(C:Int)) D):=⟨bY⟩;have au:Ae (Ah n n aY/\AA aY GB #[c,g,a,Z d C i,Z gb D gd] 31/\Nq aY q (Z d C i) (Z gb D gd) (Bw 1 C) (Bw (1+(C:Int)) D)):=by have cQ:=X5.2.size;have cR:=aS.1;refine⟨aq.1.trans (bP.mono oM),?_,bZ⟩;have:=aq.2.1;unfold AA at*;exact bV _ _ _ this dC
 clear bY bZ bP bV aq F H I L N;have cM:1<=1+(C:Int)+(D:Int):=oM;generalize bS:1+(C:Int)+(D:Int)=er at cM⊢;have bL:=Av bS;clear bS;have cW:¬er<0:=oM;obtain⟨F,H,I,L,N⟩:=BE au.2.1;go_wp2_with fail;refine(FJ q c g a (Z d C i) (Z gb D gd) C D aY y.1 y.2 au.2.2.io).mono ?_;rintro e cU ⟨rfl,bi⟩;have aw:=Av (d5 (Ar au.1 lR bi) (d5 (au.2.1.a7 bi) (au.2.2.a7 bi)));clear bi au F H I L N;rw[bL];obtain⟨i0,i1,i2,i3⟩:=A7 (s.1.a7 aw.1);go_wp2_with fail;refine(Eu j b cU V (X.2.1.a7 (Ar s.2.1 lR aw.1) lR)).mono ?_;rintro e cH ⟨d1,h1,d2,h2,d3,h3,d4,h4,rfl,cA,bj⟩;have aZ:=Av (d5 (Ar aw.1 lR bj) (d5 (aw.2.1.a7 bj) (aw.2.2.a7 bj)));have aP:=Av cA;clear cA bj aw i0 i1 i2 i3;go_wp2_with fail;refine(IK ⟨Z d1 b.aC h1,Z d2 b.dk h2,Z d3 b.aD h3,Z d4 b.e8 h4⟩ b cH V X.2.2 aP.rd aP.aC.rdc aP.aD.rdp aP.aD.rdk).mono ?_;rintro e aM ⟨c',g',a',vG,vH,C',D',rfl,aX,ae,bp⟩;obtain⟨rfl,rfl,rfl,rfl,rfl⟩:=HY.one aX;obtain⟨ha,hc,aT⟩:=AF (ae.own (vG,C) sP);obtain⟨hb,hd,aU⟩:=AF (ae.own (vH,D) sP);simp only[]at aT aU;subst aT aU;have ce:Nq aM cH (Z ha C hc) (Z hb D hd) C D:=⟨ae⟩;have aR:=Av (d5 ((⟨Ar aZ.1 lR bp,aZ.2.1.a7 bp,aZ.2.2.a7 bp⟩):(Ah n n aM/\AA aM GB #[c,g,a,Z d C i,Z gb D gd] 31/\Nq aM q (Z d C i) (Z gb D gd) (Bw 1 C) (Bw (1+(C:Int)) D))) ce)
 clear aX ae ce bp aZ aP;go_upto_region 25 with fail
 refine Ax (λu=>Ae ((Ah n n u/\AA u GB #[c,g,a,Z d C i,Z gb D gd] 31/\Nq u q (Z d C i) (Z gb D gd) (Bw 1 C) (Bw (1+(C:Int)) D))/\XW u (Z ha C hc) (Z hb D hd) C D/\AA u aM #[c,g,a,Z ha C hc,Z hb D hd] 31)) ⟨⟨Ar aR.1.1 lR (Aq _ _),aR.1.2.1.a7 (Aq _ _),aR.1.2.2.a7 (Aq _ _)⟩,(aR.2.a7 (Aq _ _)).rd,AA.new _ _ _⟩ ?_
 rintro cJ aj;generalize aM.heap.size=TB at aj⊢;clear aR;obtain⟨F,H,I,L,N⟩:=BE aj.2.2;obtain⟨k0,bK,k2,k3,k4⟩:=BE (s.2.2.2.a7 aj.1.1);go_wp2_with fail;have p:=Av (d5 aj.2.1 (s.2.2.1.a7 aj.1.1 lR));refine(Dy c g a (Z ha C hc) (Z hb D hd) (Z wa C wc) (Z wb D wd) C D cJ y.1 y.2 p.1.1 p.1.2 p.2.1 p.2.2).mono ?_;clear p;rintro e bx ⟨rfl,bq⟩;have bf:Ae (Ah n n bx/\AA bx GB #[c,g,a,Z d C i,Z gb D gd] 31/\Nq bx q (Z d C i) (Z gb D gd) (Bw 1 C) (Bw (1+(C:Int)) D)):=by have bB:=Av aj.1;exact⟨Ar bB.1 lR bq,bB.2.1.a7 bq,bB.2.2.a7 bq⟩
 clear bq aj F H I L N k0 bK k2 k3 k4;obtain⟨F,H,I,L,N⟩:=BE bf.2.1;go_wp2_with fail;refine(FJ q c g a (Z d C i) (Z gb D gd) C D bx y.1 y.2 bf.2.2.io).mono ?_;rintro e d8 ⟨rfl,bQ⟩;have cI:=Av (Ar s.2.1 lR (Ar bf.1 lR bQ));clear bQ bf F H I L N;rw[bL];go_wp2_with fail;go_ret;exact⟨rfl,cI⟩
end Go.Proofs.YtadcneiiokbofaaGreat
