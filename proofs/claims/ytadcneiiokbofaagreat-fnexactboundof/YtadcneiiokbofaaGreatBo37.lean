import Derived.Test.YtadcneiiokbofaaGreatBo35
import Derived.Deep.CutBlock
import Derived.Test.YtadcneiiokbofaaGreatBo32
namespace Go.Proofs.YtadcneiiokbofaaGreat
open Go.ChangeShapes Go.WideShapes Go.ChangeAt Go.RowKit Go.Proofs.Tryz
set_option linter.unusedVariables false
open Option renaming some → K,none → M
open Go renaming Value → J,World → Y,TypeId → Aj,Calls → Ai
open Go.RowKit renaming Below → Ah,Hid → Ae
open Go.Value renaming slice → Z,agg → Am,bool → An,int → Ag
open Go.Obj renaming cells → Ak
open Go.Ending renaming returned → Al
open Go.Proofs.Tryz renaming prog → Ap
open Go.World renaming alloc → Ac,ownsRow → Ab
open List renaming flatMap → Ad
set_option maxHeartbeats 8000000
set_option maxRecDepth 100000
variable {w u b:Y}{v:VP}{g:VF}{f:MF}{x:MI}{S base:Nat}{V s:J}{p:MP}{sh:List Int}{F:List (List Int×J)}
def Ee(S:Nat)(V:J)(j:Nat):Prop:=j=S\/V.ownBlock=K j
def ChT(w:Y)(S:Nat)(V:J)(b:Int)(c:List Int)(a:Y):Prop:=DB (Ee S V) w a/\(b=0->∃V',Fl a S V' c/\(V'.ownBlock=V.ownBlock\/∀g,V'.ownBlock=K g-> ↑w<=g))
structure JS(w u:Y)(v:VP)(g:VF)(f:MF)(x:MI)(S:Nat)(V:J):Prop where
 sb:AA u w #[v.r,v.k,v.f,v.t,g.p,f.gV,g.l,g.c] 162
 ib:AA u ((w:Nat)+1) #[x.op,x.a,x.b,x.c] 79
 iA:DB (Ee S V) w u
theorem JS.step{c:Y}{R:Nat->Prop}(h:JS w u v g f x S V)(a:DB R u c)(d:∀k,R k->k< ↑w->Ee S V k)(b:∀k,R k->k= ↑w\/k= ↑w+1->False):JS w c v g f x S V:=⟨a.ie h.sb (λe=>b _ e (.inl rfl)),a.ie h.ib (λe=>b _ e (.inr rfl)),h.iA.trans a (λk i e=>d k e i)⟩
theorem JS.a7(h:JS w u v g f x S V)(a:Ah u u b):JS w b v g f x S V:=⟨h.sb.a7 a,h.ib.a7 a,h.iA.on a⟩
theorem Ee.ge{xs:List Int}(h:Fl w S V xs){j:Nat}(a:Ee S V j):S<=j/\j<w.heap.size:=by
 rcases a with rfl|a
 . exact⟨Nat.le_refl _,h.ie.lt⟩
 have:=h.lt j a;omega
theorem Ue(h:∀t∈AG p f x,t=0->x.op=23)(a:x.op≠23):FR p f x sh=sh.take (Jd p f x sh)++AG p f x:=by
 unfold FR;congr 1
 rw[oG (g:=id) (λt b=>by
  have:t≠0:= λe=>a (h t b e)
  simp[this])]
 simp
theorem Ob(h:x.op=23):AJ p f x=[0]:=by unfold AJ;rw[lS oM,lS oM,lS oM,lS oM,lS oM,lS oM,lS oM,lS oM,lZ oM]
theorem TY(h:x.op=23):AG p f x=[0,0]:=by unfold AG;rw[lS oM,lS oM,lS oM,lS oM,lS oM,lS oM,lS oM,lS oM,lZ h]
theorem Xa(h:x.op=23)(d:1<=sh.length):FR p f x sh=sh.take (sh.length-1)++(sh.drop (sh.length-1)++sh.drop (sh.length-1)):=by
 have e:Jd p f x sh= ↑sh-1:=by unfold Jd;rw[Ob h];rfl
 unfold FR;rw[e,TY h];congr 1
 obtain⟨y,a⟩:∃y,sh[sh.length-1]?=K y:=⟨_,an oM⟩;have b:sh.drop (sh.length-1)=[y]:=by
  obtain⟨c,rfl⟩:=i8.1 a;rw[mq c];congr 1
  exact List.drop_eq_nil_of_le oM
 rw[b,a];rfl
theorem Kg(h:x.op≠29):CI p f x=AJ p f x:=by unfold CI;rw[lS h]
theorem Oa(h:x.op=29):CI p f x=Ba f:=by unfold CI;rw[lZ h]
theorem TZ(h:x.op=29):AG p f x=[]:=by unfold AG;rw[lS oM,lS oM,lS oM,lS oM,lS oM,lS oM,lS oM,lS oM,lS oM,lS oM]
theorem TV(l:List Int):CU l l=true:=by
 induction l with
 |nil=>rfl
 |cons a r b=>simp[CU,b]
theorem TM(h: ↑sh<(AJ p f x).length):Cf p f x sh=1:=by unfold Cf;rw[lZ h]
theorem Jv(h:(AJ p f x).length<= ↑sh)(b:CU (sh.drop (Jd p f x sh)) (AJ p f x)=false\/(x.op=27/\AO f x.a≠3)):Cf p f x sh=2:=by unfold Cf;rw[lS oM,lZ b]
theorem RR(h:(AJ p f x).length<= ↑sh)(b:CU (sh.drop (Jd p f x sh)) (AJ p f x)=true)(c:¬(x.op=27/\AO f x.a≠3))(d:64<(FR p f x sh).length):Cf p f x sh=3:=by unfold Cf;rw[lS oM,lS (λe=>e.elim (λe=>by rw[b]at e;cases e) c),lZ d]
theorem RQ(h:(AJ p f x).length<= ↑sh)(b:CU (sh.drop (Jd p f x sh)) (AJ p f x)=true)(c:¬(x.op=27/\AO f x.a≠3))(d:¬64<(FR p f x sh).length):Cf p f x sh=0:=by unfold Cf;rw[lS oM,lS (λe=>e.elim (λe=>by rw[b]at e;cases e) c),lS d]
theorem Lr{b:Nat}{t:Aj}{a0 a c d e f g i:J}(h:AA w b #[a0,a,c,d,e,f,g,i] t):w b=K a0/\w ⟨b,1,M⟩=K a/\w ⟨b,2,M⟩=K c/\w ⟨b,3,M⟩=K d/\w ⟨b,4,M⟩=K e/\w ⟨b,5,M⟩=K f/\w ⟨b,6,M⟩=K g/\w ⟨b,7,M⟩=K i:=⟨h.cell 0,h.cell 1,h.cell 2,h.cell 3,h.cell 4,h.cell 5,h.cell 6,h.cell 7⟩
theorem Pf(d:p.small)(e:AW p f x):(CI p f x).length<=1048576:=by
 unfold CI;split
 . unfold Ba;split<;>simp
 unfold AJ;by_cases h:x.op=28
 . obtain⟨q,c,b,a⟩:=e.callee h;rw[lS oM,lS oM,lS oM,lS oM,lS oM,lS oM,lS oM,lS oM,lS oM,lS oM,lZ h,b,lD,a];exact(d.func c (lA a)).1
 repeat' split
 all_goals first|contradiction|simp
theorem RN (v:VP)(p:MP)(g:VF)(f:MF)(x:MI)(S:Nat)(V:J)(sh:List Int)(w0 w:Y)(bu:p.small)(bt:A6 p 0)(hs:f.small)(hP:Dm w0 v p)(hr:DF w0 g f)(hx:AW p f x)(bG: ↑w0<=S)(hb:Ah w0 w0 w)(aU:Fl w S V sh)(hl:sh.length<=1048576):
 Ai Ap 251 #[Am #[v.r,v.k,v.f,v.t,g.p,f.gV,g.l,g.c],.pointer S,Am #[x.op,x.a,x.b,x.c]] w λe w'=>e=Al (BJ p f x sh)/\ChT w S V (BJ p f x sh) (Dt p f x sh) w':=by
 obtain⟨G,I,E,F,L,N,f1,f3,rfl⟩:=hP.sl;obtain⟨y,z,A,B,C,D,rfl⟩:=Ec hr;have H:=Av (d5 bu (d5 bt (d5 hs (d5 hP (d5 hr (d5 hx (d5 bG (d5 hb (d5 aU hl)))))))));have E0:Ae (JS w (Ac (Ac w (Ak #[Z G p.aC I,Z E p.dk F,Z f1 p.aD f3,Z L p.e8 N,Z y f.gU z,f.gV,Z A f.gW B,Z C f.bO D] 162)) (Ak #[x.op,x.a,x.b,x.c] 79)) ⟨Z G p.aC I,Z E p.dk F,Z f1 p.aD f3,Z L p.e8 N⟩ ⟨Z y f.gU z,Z A f.gW B,Z C f.bO D⟩ f x S V/\Fl (Ac (Ac w (Ak #[Z G p.aC I,Z E p.dk F,Z f1 p.aD f3,Z L p.e8 N,Z y f.gU z,f.gV,Z A f.gW B,Z C f.bO D] 162)) (Ak #[x.op,x.a,x.b,x.c] 79)) S V sh):=by have h2:=Hj.of w ⟨Z G p.aC I,Z E p.dk F,Z f1 p.aD f3,Z L p.e8 N⟩ ⟨Z y f.gU z,Z A f.gW B,Z C f.bO D⟩ f x.op x.a x.b x.c;exact⟨⟨h2.sb,h2.ib,DB.of h2.ej⟩,aU.a7 h2.ej⟩
 clear bu bt hs hP hr hx bG hb aU hl;generalize p.aC.length=nr at H E0⊢;generalize p.dk.length=nk at H E0⊢;generalize p.aD.length=nf at H E0⊢;generalize p.e8.length=nt at H E0⊢;generalize f.gU.length=np at H E0⊢;generalize f.gW.length=nl at H E0⊢;generalize f.bO.length=nc at H E0⊢;go_enter func251,ntmps251;go_upto_region 1 with fail
 refine Ax (λu=>Ae (JS w u ⟨Z G nr I,Z E nk F,Z f1 nf f3,Z L nt N⟩ ⟨Z y np z,Z A nl B,Z C nc D⟩ f x S V/\Fl u S V sh)) E0 ?_
 rintro U E1;clear E0;have aq:Ae (∀u,DB (Ee S V) w u->Ah w0 w0 u):= λu hu=>H.2.2.2.2.2.2.2.1.trans (hu.below H.2.2.2.2.2.2.2.1.size (λj hj e=>by have:=(Ee.ge H.2.2.2.2.2.2.2.2.1 e).1;have:=H.2.2.2.2.2.2.1;omega))
 obtain⟨s0,s1,s2,s3,s4,s5,s6,s7⟩:=Lr E1.1.sb;obtain⟨i0,i1,i2,i3⟩:=A7 E1.1.ib;go_wp2_with fail;refine(Ut ⟨Z G nr I,Z E nk F,Z f1 nf f3,Z L nt N⟩ p ⟨Z y np z,Z A nl B,Z C nc D⟩ f x U H.1 H.2.1.parts.1.1 H.2.2.1 (H.2.2.2.1.a7 (aq.o U E1.1.iA) lR) (H.2.2.2.2.1.a7 (aq.o U E1.1.iA) lR) H.2.2.2.2.2.1).mono ?_;rintro e u1 ⟨st,rfl,ao,b1⟩;obtain⟨ta,tc,rfl⟩:=ao.bW;have aF:=Av (Pf H.1 H.2.2.2.2.2.1);have R:=Av (d5 (E1.1.a7 b1) (d5 (E1.2.a7 b1) ao));clear ao b1 E1 s0 s1 s2 s3 s4 s5 s6 s7 i0 i1 i2 i3;clear U;generalize bC:CI p f x=d at aF R⊢;have aE:=Av bC;clear bC;obtain⟨i0,i1,i2,i3⟩:=A7 R.1.ib;go_upto_region 2 with fail
 go_cut [22] (λs wx=>∃bb:Bool,s=An bb/\Ae (bb=true↔(x.op=29/\sh≠d))/\Ae (JS w wx ⟨Z G nr I,Z E nk F,Z f1 nf f3,Z L nt N⟩ ⟨Z y np z,Z A nl B,Z C nc D⟩ f x S V/\Fl wx S V sh/\Rd wx 1 (Z ta d tc) d (Ad As d)))
 case first=>
  by_cases m:x.op=29
  . (have bL:(x.op==29)=true:=by simpa using m);have aQ:=Av m;clear m;go_wp2_with fail;refine(LU S V (Z ta d tc) sh d u1 R.2.1 R.2.2 H.2.2.2.2.2.2.2.2.2 aF).mono ?_;rintro e u2 ⟨⟨b2,rfl,aZ⟩,aI⟩;have n:=Av (d5 (R.1.a7 aI) (d5 (R.2.1.a7 aI) (R.2.2.a7 aI lR)));have aW:=Av aZ;clear aZ aI R i0 i1 i2 i3;cases b2
    . go_wp2_with fail;go_meet;exact⟨true,rfl,⟨λ_=>⟨aQ, λe=>(by have:=aW.2 e;cases this)⟩, λ_=>rfl⟩,n⟩
    go_wp2_with fail;go_meet;exact⟨false,rfl,⟨λe=>(by cases e), λe=>absurd (aW.1 (by first|rfl|trivial)) e.2⟩,n⟩
  have bL:(x.op==29)=false:=by simpa using m
  have aQ:=Av m;clear m;go_wp2_with fail;go_meet;exact⟨false,rfl,⟨λe=>(by cases e), λe=>absurd e.1 aQ.o⟩,R⟩
 case rest =>
  obtain⟨bb,rfl,aS,n⟩:=hcut;clear R i0 i1 i2 i3;obtain⟨W2,bR⟩:∃W,W=wc:=⟨_,rfl⟩;subst bR;cases bb
  case true=>(have i:Ae (BJ p f x sh=5):=by have h1:=aS.1 rfl;show BJ p f x sh=5;unfold BJ;rw[lZ h1.1,lS (λe=>h1.2 (by rw[<-aE,Oa h1.1];exact e))]);go_wp2_with fail;go_ret;exact⟨by rw[i];rfl,n.1.iA, λe=>absurd (i.symm.trans e) dC⟩
  case false =>
   (have HB:Ae (x.op=29->sh=d):= λe=>mr λe2=>by have:=aS.2 ⟨e,e2⟩;cases this);clear aS;go_wp2_with fail;refine(VT S V (Z ta d tc) sh d W2 n.2.1 n.2.2 H.2.2.2.2.2.2.2.2.2 aF).mono ?_;rintro e u3 ⟨V2,cc,rfl,bV⟩;rcases bV with⟨bq,rfl,aG⟩|⟨aH,am,rfl,aG⟩|⟨aH,am,rfl,⟨V1,bB,br⟩,aM,bi⟩
   . (have i:Ae (BJ p f x sh=1):=by show BJ p f x sh=1;(have h:x.op≠29:= λe=>by have:=HB.o e;subst this;omega);unfold BJ;rw[lS h];exact TM (by rw[<-Kg h,aE];exact bq));have q:=Av (n.1.iA.on aG);clear bq aG n;go_wp2_with fail;go_ret;exact⟨by rw[i];rfl,q, λe=>absurd (i.symm.trans e) dC⟩
   . (have i:Ae (BJ p f x sh=2):=by show BJ p f x sh=2;(have h:x.op≠29:= λe=>by have:=HB.o e;subst this;rw[nM,List.drop_zero,TV]at am;cases am);unfold BJ;rw[lS h];(have X:AJ p f x=d:=by rw[<-Kg h,aE]);exact Jv (by rw[X];exact aH) (.inl (by unfold Jd;rw[X];exact am)));have q:=Av (n.1.iA.on aG);clear aH am aG n;go_wp2_with fail;go_ret;exact⟨by rw[i];rfl,q, λe=>absurd (i.symm.trans e) dC⟩
   . obtain ⟨va,vc,bJ⟩:=AF aM;subst bJ;have bQ:=n.2.1.ie.lt;have bY:S<w.heap.size:=H.2.2.2.2.2.2.2.2.1.ie.lt;have q:=Av (d5 (n.1.step bi (λk e _=>.inl e) (λk e e2=>oM)) (d5 bB (d5 br (Rd.ij aM))));have aY:Ae (Hh (Z va d vc)):=by
      rcases Bo aM with⟨e,_⟩|⟨g',c',e⟩
      . exact .inl e
      exact .inr ⟨_,_,_,e⟩
     have ah:=Av (d5 aH am);clear aH am bB br aM bi n bQ;clear W2;obtain⟨s0,s1,s2,s3,s4,s5,s6,s7⟩:=Lr q.1.sb;obtain⟨i0,i1,i2,i3⟩:=A7 q.1.ib;go_wp2_with fail;refine(LM ⟨Z G nr I,Z E nk F,Z f1 nf f3,Z L nt N⟩ p ⟨Z y np z,Z A nl B,Z C nc D⟩ f x.op x.a x.b x.c u3 H.2.2.1 (H.2.2.2.1.a7 (aq.o u3 q.1.iA) lR) (H.2.2.2.2.1.a7 (aq.o u3 q.1.iA) lR) (λe=>H.2.2.2.2.2.1.local oM)).mono ?_;rintro e u4 ⟨⟨b4,rfl,bf⟩,aJ⟩;have T:=Av (d5 (q.1.a7 aJ) (d5 (q.2.1.a7 aJ) (d5 q.2.2.1 (q.2.2.2.a7 aJ lR))));have aR:=Av bf;clear bf aJ q s0 s1 s2 s3 s4 s5 s6 s7 i0 i1 i2 i3;clear u3;(have aj:Ae (x.op≠29->AJ p f x=d):= λe=>by rw[<-Kg e,aE]);cases b4
     . have i:Ae (BJ p f x sh=2):=by
        show BJ p f x sh=2;have h1:x.op=27/\AO f x.a≠3:=mr λe=>by have:=aR.2 e;cases this
        have h:x.op≠29:=oM;unfold BJ;rw[lS h];exact Jv (by rw[aj.o h];exact ah.1) (.inr h1)
       go_wp2_with fail;go_ret;exact⟨by rw[i];rfl,T.1.iA, λe=>absurd (i.symm.trans e) dC⟩
     . have HG:Ae (¬(x.op=27/\AO f x.a≠3)):=aR.1 (by first|rfl|trivial)
       clear aR;obtain⟨s0,s1,s2,s3,s4,s5,s6,s7⟩:=Lr T.1.sb;obtain⟨i0,i1,i2,i3⟩:=A7 T.1.ib;go_wp2_with fail;refine(T0 ⟨Z G nr I,Z E nk F,Z f1 nf f3,Z L nt N⟩ p ⟨Z y np z,Z A nl B,Z C nc D⟩ f x u4 H.1 H.2.1.parts.1.1 H.2.2.1 (H.2.2.2.1.a7 (aq.o u4 T.1.iA) lR) (H.2.2.2.2.1.a7 (aq.o u4 T.1.iA) lR) H.2.2.2.2.2.1).mono ?_;rintro e u5 ⟨gt,rfl,ao,b5⟩;obtain⟨ga,gc,rfl⟩:=ao.bW;have O:=Av (d5 (T.1.a7 b5) (d5 (T.2.1.a7 b5) (d5 T.2.2.1 (d5 (T.2.2.2.a7 b5 lR) ao))));clear ao b5 T s0 s1 s2 s3 s4 s5 s6 s7 i0 i1 i2 i3;clear u4;have bH:=Av ((Qf H.2.1 H.2.2.2.2.2.1).2);generalize bj:(AG p f x).length=gl at O⊢;have aX:=Av bj;clear bj;obtain⟨i0,i1,i2,i3⟩:=A7 O.1.ib;have aA:Ae ((sh.drop (sh.length-↑d)).length= ↑d):=by
        show(sh.drop (sh.length-↑d)).length= ↑d
        rw[nI];have:=ah.1;omega
       (go_upto_if 41 with fail);go_cut [10] (λs wx=>∃a c,∃Q:List Int,s=Z a Q c/\Ae (Dt p f x sh=sh.take (sh.length-↑d)++Q/\Q.length<=1048576/\JS w wx ⟨Z G nr I,Z E nk F,Z f1 nf f3,Z L nt N⟩ ⟨Z y np z,Z A nl B,Z C nc D⟩ f x S V/\Fl wx S V1 (sh.take (sh.length-↑d))/\Rd wx 1 (Z a Q c) Q (Ad As Q)))
       case first=>
        by_cases au:x.op=23
        . (have bK:(x.op==23)=true:=by simpa using au);have aw:=Av au;clear au;have B0:=Aq u5 (Ak #[Z va d vc,Z va d vc] 29);have K0:=AA.new u5 #[Z va d vc,Z va d vc] 29;go_wp2_with fail;refine(PY u5 (Z va d vc) (Z va d vc) (sh.drop (sh.length-↑d)) (sh.drop (sh.length-↑d)) _ (by rw[aA];exact aF) (by rw[aA];exact aF) (by rw[aA];exact O.2.2.2.1.a7 B0 lR) (by rw[aA];exact O.2.2.2.1.a7 B0 lR) aY aY (K0.cell 0) (K0.cell 1)).mono ?_
          rintro e u6 ⟨v6,rfl,aP,b6⟩;have bp:(sh.drop (sh.length-↑d)).length+(sh.drop (sh.length-↑d)).length=(sh.drop (sh.length-↑d)++sh.drop (sh.length-↑d)).length:=by rw[lG]
          rw[bp]at aP;obtain⟨a6,c6,e6⟩:=AF aP;subst e6;have B6:=Ar B0 lR b6;have P:Ae (Dt p f x sh=sh.take (sh.length-↑d)++(sh.drop (sh.length-↑d)++sh.drop (sh.length-↑d))/\(sh.drop (sh.length-↑d)++sh.drop (sh.length-↑d)).length<=1048576/\JS w u6 ⟨Z G nr I,Z E nk F,Z f1 nf f3,Z L nt N⟩ ⟨Z y np z,Z A nl B,Z C nc D⟩ f x S V/\Fl u6 S V1 (sh.take (sh.length-↑d))/\Rd u6 1 (Z a6 (sh.drop (sh.length-↑d)++sh.drop (sh.length-↑d)).length c6) (sh.drop (sh.length-↑d)++sh.drop (sh.length-↑d)).length (Ad As (sh.drop (sh.length-↑d)++sh.drop (sh.length-↑d)))):=by
           (have h:x.op≠29:=by have:=aw.o;omega);(have X:d.length=1:=by rw[<-aj.o h,Ob aw];rfl);refine⟨?_,?_,O.1.a7 B6,O.2.1.a7 B6,Rd.ij aP⟩
           . unfold Dt;rw[lS h,Xa aw (by have:=ah.1;omega),X]
           rw[lG,aA];omega
          clear aP b6 B6 B0 K0 bp O;generalize bT:sh.drop (sh.length-d.length)++sh.drop (sh.length-d.length)=Q at P⊢;clear bT;go_wp2_with fail;go_meet;exact⟨_,_,Q,rfl,P⟩
        (have bK:(x.op==23)=false:=by simpa using au);have aw:=Av au;clear au;have P:Ae (Dt p f x sh=sh.take (sh.length-↑d)++AG p f x/\(AG p f x).length<=1048576/\JS w u5 ⟨Z G nr I,Z E nk F,Z f1 nf f3,Z L nt N⟩ ⟨Z y np z,Z A nl B,Z C nc D⟩ f x S V/\Fl u5 S V1 (sh.take (sh.length-↑d))/\Rd u5 1 (Z ga (AG p f x).length gc) (AG p f x).length (Ad As (AG p f x))):=by
         refine⟨?_,by have:=bH.o;omega,O.1,O.2.1,by rw[aX];exact O.2.2.2.2⟩;unfold Dt;split
         . rename_i m;have X:sh=d:=HB.o m;rw[TZ m,X,nM];rfl
         rename_i m;rw[Ue (Vg H.2.1 H.2.2.2.2.2.1) aw];unfold Jd;rw[aj.o m]
        go_wp2_with fail;go_meet;exact⟨_,_,AG p f x,by rw[aX],P⟩
       case rest=>
        obtain⟨pa,pc,Q,rfl,P⟩:=hcut;clear i0 i1 i2 i3;have aT:=Av O.2.2.1;clear O;obtain⟨W7,bS⟩:∃W,W=wc:=⟨_,rfl⟩;subst bS;go_wp2_with fail;refine(N3 S V1 (Z pa Q pc) (sh.take (sh.length-↑d)) Q W7 P.2.2.2.1 P.2.2.2.2 (by rw[mY];have:=H.2.2.2.2.2.2.2.2.2;omega) P.2.1).mono ?_
        rintro e u8 ⟨rfl,V',bx,bg,bF⟩;have E8:Ae (JS w u8 ⟨Z G nr I,Z E nk F,Z f1 nf f3,Z L nt N⟩ ⟨Z y np z,Z A nl B,Z C nc D⟩ f x S V/\Fl u8 S V' (Dt p f x sh)/\(V'.ownBlock=V.ownBlock\/∀g,V'.ownBlock=K g-> ↑w<=g)):=by
         refine⟨P.2.2.1.step bg (λk e _=> ?_) (λk e e2=> ?_),by rw[P.1];exact bx,?_⟩
         . rcases e with e|e
           . exact .inl e
           exact .inr (by rw[<-aT];exact e)
         . rcases e with e|e
           . omega
           have:=(H.2.2.2.2.2.2.2.2.1.lt k (by rw[<-aT];exact e)).2;omega
         rcases bF with e|e
         . exact .inl (e.trans aT)
         exact .inr λg hg=>lQ P.2.2.1.iA.size (e g hg)
        clear bx bg bF P;clear W7;go_wp2_with fail;refine(FI S V' (Dt p f x sh) u8 E8.2.1).mono ?_;rintro e u9 ⟨rfl,rfl⟩;(have bI:Ae (x.op=29->Dt p f x sh=[]):= λe=>by unfold Dt;rw[lZ e]);by_cases ae:64<(Dt p f x sh).length
        . (have i:Ae (BJ p f x sh=3):=by (have h:x.op≠29:= λe=>by rw[bI.o e]at ae;simp at ae);(have X:Dt p f x sh=FR p f x sh:=by unfold Dt;rw[lS h]);rw[X]at ae;show BJ p f x sh=3;unfold BJ;rw[lS h];exact RR (by rw[aj.o h];exact ah.1) (by unfold Jd;rw[aj.o h];exact ah.2) HG ae);have bP:(64:Int)<((Dt p f x sh).length:Int):=oM;clear ae;go_wp2_with fail;go_ret;exact⟨by rw[i];rfl,E8.1.iA, λe=>absurd (i.symm.trans e) dC⟩
        . have i:Ae (BJ p f x sh=0):=by
           show BJ p f x sh=0;unfold BJ;split
           . rename_i m;rw[lZ];rw[HB.o m,<-aE,Oa m]
           rename_i h;(have X:Dt p f x sh=FR p f x sh:=by unfold Dt;rw[lS h]);rw[X]at ae;exact RQ (by rw[aj.o h];exact ah.1) (by unfold Jd;rw[aj.o h];exact ah.2) HG ae
          have bP:¬(64:Int)<((Dt p f x sh).length:Int):=oM;clear ae;go_wp2_with fail;go_ret;exact⟨by rw[i];rfl,E8.1.iA, λ_=>⟨V',E8.2.1,E8.2.2⟩⟩
def XG(F:List (List Int×J)):List (J×List Int):=F.map λx=>(x.2,x.1)
structure IZ(w:Y)(base:Nat)(s:J)(F:List (List Int×J)):Prop where
 row:Ab w base 29 1 s F (Ad BH F)
 io:Cl w base (XG F)
theorem Cl.jn{a:Y}{L:List (J×List Int)}(h:Cl w base L)(b:Ah w w a):Cl a base L:=⟨λx c=>Aw (h.own x c) b lR,h.sep⟩
theorem IZ.a7(h:IZ w base s F)(a:Ah w w b):IZ b base s F:=⟨Aw h.row a lR,h.io.jn a⟩
theorem IZ.rd(h:IZ w base s F):I5 w s (F.map Prod.fst):=⟨F,rfl,by rw[mD];exact Rd.ij h.row, λx a=>Rd.ij (h.io.own (x.2,x.1) (mG.2 ⟨x,a,rfl⟩))⟩
structure Tw(w:Y)(v:B2)(xs:List MI)(ks:List MC):Prop where
 bO:Rd w 4 (Z v.c.a v.c.n v.c.c) xs (Ad MI.cells xs)
 cap: ↑xs<=v.c.c
 kn:ks.length<=1048576
 kr:Rd w 2 (Z v.k.a v.k.n v.k.c) ks (Ad MC.cells ks)
 con:∀x∈xs,x.op=1->0<=x.a/\x.a.toNat< ↑ks
theorem Tw.a7{v:B2}{xs:List MI}{b:List MC}(h:Tw w v xs b)(a:Ah w w u):Tw u v xs b:=⟨h.bO.a7 a lR,h.cap,h.kn,h.kr.a7 a lR,h.con⟩
structure YG(w u:Y)(v:B2)(h:Nat)(x y:FA)(c:MT):Prop where
 body:AA u w v.cells 164
 loop:AA u ((w:Nat)+1) #[h,Z x.a x.n x.c,Z y.a y.n y.c] 92
 ix:AA u ((w:Nat)+1+1) #[c.func,c.head,c.hQ,Ag .u32 c.init] 96
 ej:Ah w w u
theorem YG.a7{v:B2}{h:Nat}{x y:FA}{c:MT}(H:YG w u v h x y c)(a:Ah u u b):YG w b v h x y c:=⟨H.body.a7 a,H.loop.a7 a,H.ix.a7 a,Ar H.ej lR a⟩
theorem Ly(v:B2)(h:Nat)(x y:FA)(F:List (MB×J))(xs:List MI)(l:List MC)(d:List Int)(c:MT)(m0:MB)(w:Y)(E:JR w v F xs)(B:(F.map Prod.fst)[h]?=K m0)(r:∀z∈F,Ux w z.2 z.1/\z.1.next.length<=1048576)(Q:Rd w 1 (Z y.a y.n y.c) d (Ad As d))(aq:d.length<=1024)(hc:Tw w v xs l):
 Ai Ap 150 #[Am v.cells,Am #[h,Z x.a x.n x.c,Z y.a y.n y.c],Am #[c.func,c.head,c.hQ,Ag .u32 c.init]] w λe w'=>AM e (¬∃(b:Nat) (m:MB),(F.map Prod.fst)[b]?=K m/\(h:Int)∈m.next/\¬((b:Int)∈d)/\¬Bm l xs m c)/\Ah w w w':=by
 have hh:h<F.length:=by have:=(i8.1 B).1;simpa using this
 obtain⟨_,g,o,_,_,_,_,s,D,_⟩:=E.at hh;have H:=Av (d5 E (d5 r (d5 Q (d5 aq hc))));have G:=Av (d5 s D);have am:Ae (y.n= ↑d):=by obtain⟨ya,yc,ey⟩:=Q.bW;simp only[lB]at ey;exact ey.2.1
 have aQ:F.length<=1024:=E.len;clear E B r Q aq hc s D hh;have t:=Fs w v.cells #[h,Z x.a x.n x.c,Z y.a y.n y.c] #[c.func,c.head,c.hQ,Ag .u32 c.init] 164 92 96;go_enter func150,ntmps150;go_upto_region 1 with fail
 refine Ax (λu=>Ae (YG w u v h x y c)) ⟨t.1,t.2.1,t.2.2.1,t.2.2.2⟩ ?_;rintro U p;clear t;obtain⟨p0,p1,p2,p3,p4,p5,p6,p7,p8,p9,aE,W,aF,aG,aH⟩:=CT p.body;simp only[G.1,G.2]at W;go_wp2_with fail;go_loopw [14] (λi wr=>∃k:Nat,k<= ↑F/\i=iZ k/\Ae (∀(j:Nat) (m:MB),j<k->(F.map Prod.fst)[j]?=K m->¬((h:Int)∈m.next/\¬((j:Int)∈d)/\¬Bm l xs m c))/\Ae (YG w wr v h x y c)) (λi _=> ↑F-(intOf i).toNat)
 case atStart=>exact⟨0,oM,rfl, λj m hj=>absurd hj oM,p⟩
 case round=>
 clear p p0 p1 p2 p3 p4 p5 p6 p7 p8 p9 aE W aF aG aH;obtain⟨k,hk,rfl,HT,p⟩:=hrel;by_cases aM:k< ↑F
 case pos=>
  obtain⟨m,g',o',ma,me,nx,B,s,D,C,R,S,e1,e2,aR,aS,ao⟩:=H.1.at aM;rw[G.1]at s;simp only[lH,nF,nU]at s;obtain⟨rfl,rfl⟩:=s;obtain⟨r,P⟩:=H.2.1 _ (lA ao);simp only[]at r P;obtain⟨T,V,aI⟩:=Rd.bW r;subst aI;rw[<-p.ej.cell (g8 C)]at C;rw[<-p.ej.cell (g8 R)]at R;rw[<-p.ej.cell (g8 S)]at S;have q:=Av (d5 B (d5 r (d5 P (d5 e1 e2))));have L:Ae (¬((h:Int)∈m.next/\¬((k:Int)∈d)/\¬Bm l xs m c)->∀(j:Nat) (m:MB),j<k+1->(F.map Prod.fst)[j]?=K m->¬((h:Int)∈m.next/\¬((j:Int)∈d)/\¬Bm l xs m c)):= λaP j m' hj O=>by
   by_cases e:j=k
   . subst e;rw[q.1]at O;have em:=lP O;subst em;exact aP
   exact HT.o j m' oM O
  have s1:¬g=wr.heap.size:=mR (g8 C);have s2:g<wr.heap.size:=g8 C;clear B r P ao e1 e2 D;go_upto_region 4 with fail
  refine Ax (λu=>Ae (YG w u v h x y c/\AA u wr #[ma,me,Z T m.next V] 90)) ⟨p.a7 (Aq _ _),AA.new _ _ _⟩ ?_
  rintro UA f;generalize wr.heap.size=YB at f⊢;clear C R S s1 s2 p;obtain⟨b0,b1,b2⟩:=B9 f.2;obtain⟨l0,l1,l2⟩:=B9 f.1.loop;rw[am]at l2;go_wp2_with fail;refine(Fd T V m.next (h:Int) UA q.2.2.1 (Rd.a7 q.2.1 f.1.ej lR)).mono ?_;rintro e u2 ⟨⟨q1,rfl,au⟩,rfl⟩;have ae:=Av au;clear au;cases q1
  case false=>
   have A:Ae (¬((h:Int)∈m.next/\¬((k:Int)∈d)/\¬Bm l xs m c)):= λe=>(by have:=ae.2 e.1;cases this)
   go_wp2;go_roundw;(case rel=>exact⟨k+1,oM,by go_num,L.o A,f.1⟩);exact oI
  go_wp2_with fail;have N:Ae (Rd w 1 (Z y.a d y.c) d (Ad As d)):=by have:=H.2.2.1;rw[am]at this;exact this
  refine(Fd y.a y.c d (k:Int) u2 (lQ H.2.2.2.1 oM) (Rd.a7 N f.1.ej lR)).mono ?_;rintro e u3 ⟨⟨q2,rfl,aw⟩,rfl⟩;have ah:=Av aw;clear aw;cases q2
  case true=>
   have A:Ae (¬((h:Int)∈m.next/\¬((k:Int)∈d)/\¬Bm l xs m c)):= λe=>e.2.1 (ah.1 (by first|rfl|trivial))
   go_wp2;go_roundw;(case rel=>exact⟨k+1,oM,by go_num,L.o A,f.1⟩);exact oI
  obtain⟨p0,p1,p2,p3,p4,p5,p6,p7,p8,p9,aE,W,aF,aG,aH⟩:=CT f.1.body;obtain⟨c0,c1,c2,c3⟩:=Cw f.1.ix;go_wp2_with fail;have I:=K4 v (Z T m.next V) xs l m c u3 H.1.jT (H.2.2.2.2.a7 f.1.ej).bO H.2.2.2.2.cap H.2.2.2.2.kn (H.2.2.2.2.a7 f.1.ej).kr H.2.2.2.2.con (H.1.ie k m q.1);rw[q.2.2.2.1,q.2.2.2.2]at I;refine I.mono ?_;rintro e u4 ⟨⟨q3,rfl,aA⟩,bb⟩;have aj:=Av aA;have X:=Av (f.1.a7 bb);clear aA bb I;cases q3
  case true=>
   have A:Ae (¬((h:Int)∈m.next/\¬((k:Int)∈d)/\¬Bm l xs m c)):= λe=>e.2.2 (aj.1 (by first|rfl|trivial))
   go_wp2;go_roundw;(case rel=>exact⟨k+1,oM,by go_num,L.o A,X⟩);exact oI
  have HN:Ae (¬¬∃(b:Nat) (m:MB),(F.map Prod.fst)[b]?=K m/\(h:Int)∈m.next/\¬((b:Int)∈d)/\¬Bm l xs m c):= λe=>e ⟨k,m,q.1,ae.1 (by first|rfl|trivial), λe=>(by have:=ah.2 e;cases this), λe=>(by have:=aj.2 e;cases this)⟩
  go_wp2;go_ret;exact⟨.no HN,X.ej⟩
 have aJ:k=F.length:=oM;subst aJ;have N:Ae (¬∃(b:Nat) (m:MB),(F.map Prod.fst)[b]?=K m/\(h:Int)∈m.next/\¬((b:Int)∈d)/\¬Bm l xs m c):= λ⟨b,m,h1,h2⟩=>HT.o b m (by have:=(i8.1 h1).1;simpa using this) h1 h2
 go_wp2;go_ret;exact⟨.iu N,p.ej⟩
end Go.Proofs.YtadcneiiokbofaaGreat
