import Derived.Test.YtjnglocdoljgkaaGreatSw41
import Derived.Deep.CutBlock
import Derived.Test.YtjnglocdoljgkaaGreatSw36
namespace Go.Proofs.YtjnglocdoljgkaaGreat
open Go.ChangeShapes Go.WideShapes Go.ChangeAt Go.RowKit
set_option linter.unusedVariables false
open Option renaming some → K,none → M
open Go renaming Value → J,World → Y,TypeId → Af,Calls → Ae
open Go.IntKind renaming i64 → Ab
open Go.Value renaming int → Ac,slice → Z
open Go.RowKit renaming Below → Ad,Hid → Aa
set_option maxHeartbeats 8000000
set_option maxRecDepth 100000
variable {w u b U:Y}{i g S R j k base n c B P low:Nat}{v:VP}{f:MF}{x:MI}{V s:J}{xs:List J}{p:MP}{sh ts gs:List Int}{a:Option Addr}{e:Af}{F:List (List Int×J)}{y:RQ}{z:Int}
def Dl(S:Nat)(V:J)(j:Nat):Prop:=j=S\/V.ownBlock=K j
def Yn(w:Y)(S:Nat)(V:J)(code:Int)(b:List Int)(a:Y):Prop:=DV (Dl S V) w a/\(code=0->∃V',Du a S V' b/\(V'.ownBlock=V.ownBlock\/∀g,V'.ownBlock=K g-> ↑w<=g))
structure GR(w u:Y)(v:VP)(g:VF)(f:MF)(x:MI)(S:Nat)(V:J):Prop where
 sb:Ar u w #[v.r,v.k,v.f,v.t,g.p,Ac Ab f.gz,g.l,g.c] 53
 ib:Ar u ((w:Nat)+1) #[Ac Ab x.op,Ac Ab x.a,Ac Ab x.b,Ac Ab x.c] 60
 io:DV (Dl S V) w u
theorem GR.step{i:Y}{g:VF}{R:Nat->Prop}(h:GR w u v g f x S V)(a:DV R u i)(j:∀k,R k->k< ↑w->Dl S V k)(b:∀k,R k->k= ↑w\/k= ↑w+1->False):GR w i v g f x S V:=⟨a.gR h.sb (λe=>b _ e (.inl rfl)),a.gR h.ib (λe=>b _ e (.inr rfl)),h.io.trans a (λk l e=>j k e l)⟩
theorem GR.bM{g:VF}(h:GR w u v g f x S V)(a:Ad u u b):GR w b v g f x S V:=⟨h.sb.bM a,h.ib.bM a,h.io.on a⟩
theorem Dl.ge{xs:List Int}(h:Du w S V xs)(a:Dl S V j):S<=j/\j<w.heap.size:=by
 rcases a with rfl|a
 . exact⟨Nat.le_refl _,h.gR.lt⟩
 have:=h.lt j a;omega
theorem SA(h:∀t∈Aw p f x,t=0->x.op=23)(a:x.op≠23):BT p f x sh=sh.take (Hf p f x sh)++Aw p f x:=by
 unfold BT;congr 1
 rw[nF (g:=id) (λt b=>by
  have:t≠0:= λe=>a (h t b e)
  simp[this])]
 simp
theorem MU(h:x.op=23):Ax p f x=[0]:=by unfold Ax;rw[lE oM,lE oM,lE oM,lE oM,lE oM,lE oM,lE oM,lE oM,lS oM]
theorem Sh(h:x.op=23):Aw p f x=[0,0]:=by unfold Aw;rw[lE oM,lE oM,lE oM,lE oM,lE oM,lE oM,lE oM,lE oM,lS h]
theorem Vy(h:x.op=23)(i:1<=sh.length):BT p f x sh=sh.take (sh.length-1)++(sh.drop (sh.length-1)++sh.drop (sh.length-1)):=by
 have e:Hf p f x sh= ↑sh-1:=by unfold Hf;rw[MU h];rfl
 unfold BT;rw[e,Sh h];congr 1
 obtain⟨y,a⟩:∃y,sh[sh.length-1]?=K y:=⟨_,an oM⟩;have b:sh.drop (sh.length-1)=[y]:=by
  obtain⟨g,rfl⟩:=iV.1 a;rw[mv g];congr 1
  exact List.drop_eq_nil_of_le oM
 rw[b,a];rfl
theorem JM(h:x.op≠29):Ch p f x=Ax p f x:=by unfold Ch;rw[lE h]
theorem MS(h:x.op=29):Ch p f x=AV f:=by unfold Ch;rw[lS h]
theorem Si(h:x.op=29):Aw p f x=[]:=by unfold Aw;rw[lE oM,lE oM,lE oM,lE oM,lE oM,lE oM,lE oM,lE oM,lE oM,lE oM]
theorem Se(l:List Int):CP l l=true:=by
 induction l with
 |nil=>rfl
 |cons a r b=>simp[CP,b]
theorem R5(h: ↑sh<(Ax p f x).length):BJ p f x sh=1:=by unfold BJ;rw[lS h]
theorem I6(h:(Ax p f x).length<= ↑sh)(h2:CP (sh.drop (Hf p f x sh)) (Ax p f x)=false\/(x.op=27/\Ay f x.a≠3)):BJ p f x sh=2:=by unfold BJ;rw[lE oM,lS h2]
theorem Qb(h:(Ax p f x).length<= ↑sh)(h2:CP (sh.drop (Hf p f x sh)) (Ax p f x)=true)(b:¬(x.op=27/\Ay f x.a≠3))(g:64<(BT p f x sh).length):BJ p f x sh=3:=by unfold BJ;rw[lE oM,lE (λe=>e.elim (λe=>by rw[h2]at e;cases e) b),lS g]
theorem Qa(h:(Ax p f x).length<= ↑sh)(h2:CP (sh.drop (Hf p f x sh)) (Ax p f x)=true)(b:¬(x.op=27/\Ay f x.a≠3))(g:¬64<(BT p f x sh).length):BJ p f x sh=0:=by unfold BJ;rw[lE oM,lE (λe=>e.elim (λe=>by rw[h2]at e;cases e) b),lE g]
theorem Ix{b:Nat}{t:Af}{a e f g i j k l:J}(h:Ar w b #[a,e,f,g,i,j,k,l] t):w.cell? b=K a/\w.cell? ⟨b,1,M⟩=K e/\w.cell? ⟨b,2,M⟩=K f/\w.cell? ⟨b,3,M⟩=K g/\w.cell? ⟨b,4,M⟩=K i/\w.cell? ⟨b,5,M⟩=K j/\w.cell? ⟨b,6,M⟩=K k/\w.cell? ⟨b,7,M⟩=K l:=⟨h.cell 0,h.cell 1,h.cell 2,h.cell 3,h.cell 4,h.cell 5,h.cell 6,h.cell 7⟩
theorem ND(g:p.small)(i:AK p f x):(Ch p f x).length<=1048576:=by
 unfold Ch;split
 . unfold AV;split<;>simp
 unfold Ax;by_cases h:x.op=28
 . obtain⟨q,e,b,a⟩:=i.callee h;rw[lE oM,lE oM,lE oM,lE oM,lE oM,lE oM,lE oM,lE oM,lE oM,lE oM,lS h,b,kM,a];exact(g.func e (i8 a)).1
 repeat' split
 all_goals first|contradiction|simp
theorem Ky (v:VP)(p:MP)(g:VF)(f:MF)(x:MI)(S:Nat)(V:J)(sh:List Int)(w0 w:Y)(br:p.small)(bq:A8 p 0)(hs:f.small)(hP:Cz w0 v p)(hr:Dt w0 g f)(hx:AK p f x)(bC: ↑w0<=S)(hb:Ad w0 w0 w)(aS:Du w S V sh)(hl:sh.length<=1048576):
 Ae Tryz.prog 68 #[.agg #[v.r,v.k,v.f,v.t,g.p,Ac Ab f.gz,g.l,g.c],.pointer S,.agg #[Ac Ab x.op,Ac Ab x.a,Ac Ab x.b,Ac Ab x.c]] w λe w'=>e=.returned (Ac Ab (A6 p f x sh))/\Yn w S V (A6 p f x sh) (Bv p f x sh) w':=by
 obtain⟨D,E,B,C,F,G,f1,f3,rfl⟩:=hP.sl;obtain⟨m,n,q,y,z,A,rfl⟩:=C5 hr;have H:Aa (p.small/\A8 p 0/\f.small/\Cz w0 ⟨Z D p.a7 E,Z B p.aC C,Z f1 p.cC f3,Z F p.dr G⟩ p/\Dt w0 ⟨Z m f.d5 n,Z q f.en y,Z z f.ch A⟩ f/\AK p f x/\ ↑w0<=S/\Ad w0 w0 w/\Du w S V sh/\sh.length<=1048576):=⟨br,bq,hs,hP,hr,hx,bC,hb,aS,hl⟩
 have E0:Aa (GR w ((w.alloc (.cells #[Z D p.a7 E,Z B p.aC C,Z f1 p.cC f3,Z F p.dr G,Z m f.d5 n,Ac Ab f.gz,Z q f.en y,Z z f.ch A] 53)).alloc (.cells #[Ac Ab x.op,Ac Ab x.a,Ac Ab x.b,Ac Ab x.c] 60)) ⟨Z D p.a7 E,Z B p.aC C,Z f1 p.cC f3,Z F p.dr G⟩ ⟨Z m f.d5 n,Z q f.en y,Z z f.ch A⟩ f x S V/\Du ((w.alloc (.cells #[Z D p.a7 E,Z B p.aC C,Z f1 p.cC f3,Z F p.dr G,Z m f.d5 n,Ac Ab f.gz,Z q f.en y,Z z f.ch A] 53)).alloc (.cells #[Ac Ab x.op,Ac Ab x.a,Ac Ab x.b,Ac Ab x.c] 60)) S V sh):=by have h2:=Fw.of w ⟨Z D p.a7 E,Z B p.aC C,Z f1 p.cC f3,Z F p.dr G⟩ ⟨Z m f.d5 n,Z q f.en y,Z z f.ch A⟩ f x.op x.a x.b x.c;exact⟨⟨h2.sb,h2.ib,DV.of h2.gG⟩,aS.bM h2.gG⟩
 clear br bq hs hP hr hx bC hb aS hl;generalize p.a7.length=T at H E0⊢;generalize p.aC.length=P at H E0⊢;generalize p.cC.length=O at H E0⊢;generalize p.dr.length=X at H E0⊢;generalize f.d5.length=R at H E0⊢;generalize f.en.length=Q at H E0⊢;generalize f.ch.length=N at H E0⊢;go_enter Tryz.func68,Tryz.ntmps68;go_upto_region 1 with fail
 refine An (λu=>Aa (GR w u ⟨Z D T E,Z B P C,Z f1 O f3,Z F X G⟩ ⟨Z m R n,Z q Q y,Z z N A⟩ f x S V/\Du u S V sh)) E0 ?_
 rintro U E1;clear E0;have ao:Aa (∀u,DV (Dl S V) w u->Ad w0 w0 u):= λu hu=>H.o.2.2.2.2.2.2.2.1.trans (hu.below H.o.2.2.2.2.2.2.2.1.size (λj hj e=>by have:=(Dl.ge H.o.2.2.2.2.2.2.2.2.1 e).1;have:=H.o.2.2.2.2.2.2.1;omega))
 obtain⟨s0,s1,s2,s3,s4,s5,s6,s7⟩:=Ix E1.o.1.sb;obtain⟨i0,i1,i2,i3⟩:=Bi E1.o.1.ib;go_wp2_with fail;refine(ST ⟨Z D T E,Z B P C,Z f1 O f3,Z F X G⟩ p ⟨Z m R n,Z q Q y,Z z N A⟩ f x U H.o.1 H.o.2.1.parts.1.1 H.o.2.2.1 (H.o.2.2.2.1.bM (ao.o U E1.o.1.io) lR) (H.o.2.2.2.2.1.bM (ao.o U E1.o.1.io) lR) H.o.2.2.2.2.2.1).mono ?_;rintro e u1 ⟨st,rfl,am,b1⟩;obtain⟨ta,tc,rfl⟩:=am.fu;have aD:Aa ((Ch p f x).length<=1048576):=ND H.o.1 H.o.2.2.2.2.2.1;have E2:Aa (GR w u1 ⟨Z D T E,Z B P C,Z f1 O f3,Z F X G⟩ ⟨Z m R n,Z q Q y,Z z N A⟩ f x S V/\Du u1 S V sh/\Rd u1 1 (Z ta (Ch p f x).length tc) (Ch p f x).length ((Ch p f x).flatMap Ah)):=⟨E1.o.1.bM b1,E1.o.2.bM b1,am⟩
 clear am b1 E1 s0 s1 s2 s3 s4 s5 s6 s7 i0 i1 i2 i3;clear U;generalize bz:Ch p f x=h at aD E2⊢;have aA:Aa (Ch p f x=h):=bz;clear bz;obtain⟨i0,i1,i2,i3⟩:=Bi E2.o.1.ib;go_upto_region 2 with fail
 go_cut [22] (λs wx=>∃bb:Bool,s=.bool bb/\Aa (bb=true↔(x.op=29/\sh≠h))/\Aa (GR w wx ⟨Z D T E,Z B P C,Z f1 O f3,Z F X G⟩ ⟨Z m R n,Z q Q y,Z z N A⟩ f x S V/\Du wx S V sh/\Rd wx 1 (Z ta h tc) h (h.flatMap Ah)))
 case first=>
  by_cases L:x.op=29
  . (have bJ:(x.op==29)=true:=by simpa using L);have aM:Aa (x.op=29):=L;clear L;go_wp2_with fail;refine(Iy S V (Z ta h tc) sh h u1 E2.o.2.1 E2.o.2.2 H.o.2.2.2.2.2.2.2.2.2 aD.o).mono ?_;rintro e u2 ⟨⟨b2,rfl,aX⟩,aG⟩;have E3:Aa (GR w u2 ⟨Z D T E,Z B P C,Z f1 O f3,Z F X G⟩ ⟨Z m R n,Z q Q y,Z z N A⟩ f x S V/\Du u2 S V sh/\Rd u2 1 (Z ta h tc) h (h.flatMap Ah)):=⟨E2.o.1.bM aG,E2.o.2.1.bM aG,E2.o.2.2.bM aG lR⟩
    have aT:Aa (b2=true↔sh=h):=aX;clear aX aG E2 i0 i1 i2 i3;cases b2
    . go_wp2_with fail;go_meet;exact⟨true,rfl,⟨λ_=>⟨aM.o, λe=>(by have:=aT.o.2 e;cases this)⟩, λ_=>rfl⟩,E3⟩
    go_wp2_with fail;go_meet;exact⟨false,rfl,⟨λe=>(by cases e), λe=>absurd (aT.o.1 (by first|rfl|trivial)) e.2⟩,E3⟩
  have bJ:(x.op==29)=false:=by simpa using L
  have aM:Aa (¬x.op=29):=L;clear L;go_wp2_with fail;go_meet;exact⟨false,rfl,⟨λe=>(by cases e), λe=>absurd e.1 aM.o⟩,E2⟩
 case rest =>
  obtain⟨bb,rfl,aQ,E3⟩:=hcut;clear E2 i0 i1 i2 i3;obtain⟨W2,bO⟩:∃W,W=wc:=⟨_,rfl⟩;subst bO;cases bb
  case true=>(have I:Aa (A6 p f x sh=5):=by have h1:=aQ.o.1 rfl;show A6 p f x sh=5;unfold A6;rw[lS h1.1,lE (λe=>h1.2 (by rw[<-aA.o,MS h1.1];exact e))]);go_wp2_with fail;go_ret;exact⟨by rw[I.o];rfl,E3.o.1.io, λe=>absurd (I.o.symm.trans e) dC⟩
  case false =>
   (have HB:Aa (x.op=29->sh=h):= λe=>ly λe2=>by have:=aQ.o.2 ⟨e,e2⟩;cases this);clear aQ;go_wp2_with fail;refine(T7 S V (Z ta h tc) sh h W2 E3.o.2.1 E3.o.2.2 H.o.2.2.2.2.2.2.2.2.2 aD.o).mono ?_;rintro e u3 ⟨V2,cc,rfl,bR⟩;rcases bR with⟨bj,rfl,aE⟩|⟨aF,aj,rfl,aE⟩|⟨aF,aj,rfl,⟨V1,bu,bp⟩,aI,bf⟩
   . (have I:Aa (A6 p f x sh=1):=by show A6 p f x sh=1;(have i:x.op≠29:= λe=>by have:=HB.o e;subst this;omega);unfold A6;rw[lE i];exact R5 (by rw[<-JM i,aA.o];exact bj));have E4:Aa (DV (Dl S V) w u3):=E3.o.1.io.on aE;clear bj aE E3;go_wp2_with fail;go_ret;exact⟨by rw[I.o];rfl,E4.o, λe=>absurd (I.o.symm.trans e) dC⟩
   . (have I:Aa (A6 p f x sh=2):=by show A6 p f x sh=2;(have i:x.op≠29:= λe=>by have:=HB.o e;subst this;rw[ng,List.drop_zero,Se]at aj;cases aj);unfold A6;rw[lE i];(have e1:Ax p f x=h:=by rw[<-JM i,aA.o]);exact I6 (by rw[e1];exact aF) (.inl (by unfold Hf;rw[e1];exact aj)));have E4:Aa (DV (Dl S V) w u3):=E3.o.1.io.on aE;clear aF aj aE E3;go_wp2_with fail;go_ret;exact⟨by rw[I.o];rfl,E4.o, λe=>absurd (I.o.symm.trans e) dC⟩
   . obtain ⟨va,vc,bH⟩:=Az aI;subst bH;have bL:=E3.o.2.1.gR.lt;have bS:S<w.heap.size:=H.o.2.2.2.2.2.2.2.2.1.gR.lt;have E4:Aa (GR w u3 ⟨Z D T E,Z B P C,Z f1 O f3,Z F X G⟩ ⟨Z m R n,Z q Q y,Z z N A⟩ f x S V/\Du u3 S V1 (sh.take (sh.length-↑h))/\V1.ownBlock=V.ownBlock/\Rd u3 1 (Z va h vc) h ((sh.drop (sh.length-↑h)).flatMap Ah)):=⟨E3.o.1.step bf (λk e _=>.inl e) (λk e e2=>oM),bu,bp,Rd.gM aI⟩
     have aW:Aa (FI (Z va h vc)):=by
      rcases Bz aI with⟨e,_⟩|⟨g',c',e⟩
      . exact .inl e
      exact .inr ⟨_,_,_,e⟩
     have ae:Aa (h.length<= ↑sh/\CP (sh.drop (sh.length-↑h)) h=true):=⟨aF,aj⟩
     clear aF aj bu bp aI bf E3 bL;clear W2;obtain⟨s0,s1,s2,s3,s4,s5,s6,s7⟩:=Ix E4.o.1.sb;obtain⟨i0,i1,i2,i3⟩:=Bi E4.o.1.ib;go_wp2_with fail;refine(KI ⟨Z D T E,Z B P C,Z f1 O f3,Z F X G⟩ p ⟨Z m R n,Z q Q y,Z z N A⟩ f x.op x.a x.b x.c u3 H.o.2.2.1 (H.o.2.2.2.1.bM (ao.o u3 E4.o.1.io) lR) (H.o.2.2.2.2.1.bM (ao.o u3 E4.o.1.io) lR) (λe=>H.o.2.2.2.2.2.1.local oM)).mono ?_;rintro e u4 ⟨⟨b4,rfl,aY⟩,aH⟩;have E5:Aa (GR w u4 ⟨Z D T E,Z B P C,Z f1 O f3,Z F X G⟩ ⟨Z m R n,Z q Q y,Z z N A⟩ f x S V/\Du u4 S V1 (sh.take (sh.length-↑h))/\V1.ownBlock=V.ownBlock/\Rd u4 1 (Z va h vc) h ((sh.drop (sh.length-↑h)).flatMap Ah)):=⟨E4.o.1.bM aH,E4.o.2.1.bM aH,E4.o.2.2.1,E4.o.2.2.2.bM aH lR⟩
     have aP:Aa (b4=true↔¬(x.op=27/\Ay f x.a≠3)):=aY
     clear aY aH E4 s0 s1 s2 s3 s4 s5 s6 s7 i0 i1 i2 i3;clear u3;(have ah:Aa (x.op≠29->Ax p f x=h):= λe=>by rw[<-JM e,aA.o]);cases b4
     . have I:Aa (A6 p f x sh=2):=by
        show A6 p f x sh=2;have h1:x.op=27/\Ay f x.a≠3:=ly λe=>by have:=aP.o.2 e;cases this
        have i:x.op≠29:=oM;unfold A6;rw[lE i];exact I6 (by rw[ah.o i];exact ae.o.1) (.inr h1)
       go_wp2_with fail;go_ret;exact⟨by rw[I.o];rfl,E5.o.1.io, λe=>absurd (I.o.symm.trans e) dC⟩
     . have HG:Aa (¬(x.op=27/\Ay f x.a≠3)):=aP.o.1 (by first|rfl|trivial)
       clear aP;obtain⟨s0,s1,s2,s3,s4,s5,s6,s7⟩:=Ix E5.o.1.sb;obtain⟨i0,i1,i2,i3⟩:=Bi E5.o.1.ib;go_wp2_with fail;refine(Sj ⟨Z D T E,Z B P C,Z f1 O f3,Z F X G⟩ p ⟨Z m R n,Z q Q y,Z z N A⟩ f x u4 H.o.1 H.o.2.1.parts.1.1 H.o.2.2.1 (H.o.2.2.2.1.bM (ao.o u4 E5.o.1.io) lR) (H.o.2.2.2.2.1.bM (ao.o u4 E5.o.1.io) lR) H.o.2.2.2.2.2.1).mono ?_;rintro e u5 ⟨gt,rfl,am,b5⟩;obtain⟨ga,gc,rfl⟩:=am.fu;have E6:Aa (GR w u5 ⟨Z D T E,Z B P C,Z f1 O f3,Z F X G⟩ ⟨Z m R n,Z q Q y,Z z N A⟩ f x S V/\Du u5 S V1 (sh.take (sh.length-↑h))/\V1.ownBlock=V.ownBlock/\Rd u5 1 (Z va h vc) h ((sh.drop (sh.length-↑h)).flatMap Ah)/\Rd u5 1 (Z ga (Aw p f x).length gc) (Aw p f x).length ((Aw p f x).flatMap Ah)):=⟨E5.o.1.bM b5,E5.o.2.1.bM b5,E5.o.2.2.1,E5.o.2.2.2.bM b5 lR,am⟩
       clear am b5 E5 s0 s1 s2 s3 s4 s5 s6 s7 i0 i1 i2 i3;clear u4;have bF:Aa ((Aw p f x).length<=2):=(Ja H.o.2.1 H.o.2.2.2.2.2.1).2;generalize bg:(Aw p f x).length=gl at E6⊢;have aU:Aa ((Aw p f x).length=gl):=bg;clear bg;obtain⟨i0,i1,i2,i3⟩:=Bi E6.o.1.ib;have aw:Aa ((sh.drop (sh.length-↑h)).length= ↑h):=by
        show(sh.drop (sh.length-↑h)).length= ↑h
        rw[mO];have:=ae.o.1;omega
       (go_upto_if 41 with fail);go_cut [10] (λs wx=>∃a c,∃pl:List Int,s=Z a pl c/\Aa (Bv p f x sh=sh.take (sh.length-↑h)++pl/\pl.length<=1048576/\GR w wx ⟨Z D T E,Z B P C,Z f1 O f3,Z F X G⟩ ⟨Z m R n,Z q Q y,Z z N A⟩ f x S V/\Du wx S V1 (sh.take (sh.length-↑h))/\Rd wx 1 (Z a pl c) pl (pl.flatMap Ah)))
       case first=>
        by_cases aq:x.op=23
        . (have bI:(x.op==23)=true:=by simpa using aq);have au:Aa (x.op=23):=aq;clear aq;have B0:=Ag u5 (.cells #[Z va h vc,Z va h vc] 36);have K0:=Ar.new u5 #[Z va h vc,Z va h vc] 36;go_wp2_with fail;refine(Og u5 (Z va h vc) (Z va h vc) (sh.drop (sh.length-↑h)) (sh.drop (sh.length-↑h)) _ (by rw[aw.o];exact aD.o) (by rw[aw.o];exact aD.o) (by rw[aw.o];exact E6.o.2.2.2.1.bM B0 lR) (by rw[aw.o];exact E6.o.2.2.2.1.bM B0 lR) aW.o aW.o (K0.cell 0) (K0.cell 1)).mono ?_
          rintro e u6 ⟨v6,rfl,aJ,b6⟩;have bi:(sh.drop (sh.length-↑h)).length+(sh.drop (sh.length-↑h)).length=(sh.drop (sh.length-↑h)++sh.drop (sh.length-↑h)).length:=by rw[kJ]
          rw[bi]at aJ;obtain⟨a6,c6,e6⟩:=Az aJ;subst e6;have B6:=Ai B0 lR b6;have E7:Aa (Bv p f x sh=sh.take (sh.length-↑h)++(sh.drop (sh.length-↑h)++sh.drop (sh.length-↑h))/\(sh.drop (sh.length-↑h)++sh.drop (sh.length-↑h)).length<=1048576/\GR w u6 ⟨Z D T E,Z B P C,Z f1 O f3,Z F X G⟩ ⟨Z m R n,Z q Q y,Z z N A⟩ f x S V/\Du u6 S V1 (sh.take (sh.length-↑h))/\Rd u6 1 (Z a6 (sh.drop (sh.length-↑h)++sh.drop (sh.length-↑h)).length c6) (sh.drop (sh.length-↑h)++sh.drop (sh.length-↑h)).length ((sh.drop (sh.length-↑h)++sh.drop (sh.length-↑h)).flatMap Ah)):=by
           (have i:x.op≠29:=by have:=au.o;omega);(have e1:h.length=1:=by rw[<-ah.o i,MU au.o];rfl);refine⟨?_,?_,E6.o.1.bM B6,E6.o.2.1.bM B6,Rd.gM aJ⟩
           . unfold Bv;rw[lE i,Vy au.o (by have:=ae.o.1;omega),e1]
           rw[kJ,aw.o];omega
          clear aJ b6 B6 B0 K0 bi E6;generalize bQ:sh.drop (sh.length-h.length)++sh.drop (sh.length-h.length)=pl at E7⊢;clear bQ;go_wp2_with fail;go_meet;exact⟨_,_,pl,rfl,E7⟩
        (have bI:(x.op==23)=false:=by simpa using aq);have au:Aa (¬x.op=23):=aq;clear aq;have E7:Aa (Bv p f x sh=sh.take (sh.length-↑h)++Aw p f x/\(Aw p f x).length<=1048576/\GR w u5 ⟨Z D T E,Z B P C,Z f1 O f3,Z F X G⟩ ⟨Z m R n,Z q Q y,Z z N A⟩ f x S V/\Du u5 S V1 (sh.take (sh.length-↑h))/\Rd u5 1 (Z ga (Aw p f x).length gc) (Aw p f x).length ((Aw p f x).flatMap Ah)):=by
         refine⟨?_,by have:=bF.o;omega,E6.o.1,E6.o.2.1,by rw[aU.o];exact E6.o.2.2.2.2⟩;unfold Bv;split
         . rename_i L;have e1:sh=h:=HB.o L;rw[Si L,e1,ng];rfl
         rename_i L;rw[SA (Tx H.o.2.1 H.o.2.2.2.2.2.1) au.o];unfold Hf;rw[ah.o L]
        go_wp2_with fail;go_meet;exact⟨_,_,Aw p f x,by rw[aU.o],E7⟩
       case rest=>
        obtain⟨pa,pc,pl,rfl,E7⟩:=hcut;clear i0 i1 i2 i3;have aR:Aa (V1.ownBlock=V.ownBlock):=E6.o.2.2.1;clear E6;obtain⟨W7,bP⟩:∃W,W=wc:=⟨_,rfl⟩;subst bP;go_wp2_with fail;refine(MK S V1 (Z pa pl pc) (sh.take (sh.length-↑h)) pl W7 E7.o.2.2.2.1 E7.o.2.2.2.2 (by rw[lj];have:=H.o.2.2.2.2.2.2.2.2.2;omega) E7.o.2.1).mono ?_
        rintro e u8 ⟨rfl,V',bt,aZ,bB⟩;have E8:Aa (GR w u8 ⟨Z D T E,Z B P C,Z f1 O f3,Z F X G⟩ ⟨Z m R n,Z q Q y,Z z N A⟩ f x S V/\Du u8 S V' (Bv p f x sh)/\(V'.ownBlock=V.ownBlock\/∀g,V'.ownBlock=K g-> ↑w<=g)):=by
         refine⟨E7.o.2.2.1.step aZ (λk e _=> ?_) (λk e e2=> ?_),by rw[E7.o.1];exact bt,?_⟩
         . rcases e with e|e
           . exact .inl e
           exact .inr (by rw[<-aR.o];exact e)
         . rcases e with e|e
           . omega
           have:=(H.o.2.2.2.2.2.2.2.2.1.lt k (by rw[<-aR.o];exact e)).2;omega
         rcases bB with e|e
         . exact .inl (e.trans aR.o)
         exact .inr λg hg=>kT E7.o.2.2.1.io.size (e g hg)
        clear bt aZ bB E7;clear W7;go_wp2_with fail;refine(Fo S V' (Bv p f x sh) u8 E8.o.2.1).mono ?_;rintro e u9 ⟨rfl,rfl⟩;(have bG:Aa (x.op=29->Bv p f x sh=[]):= λe=>by unfold Bv;rw[lS e]);by_cases a8:64<(Bv p f x sh).length
        . (have I:Aa (A6 p f x sh=3):=by (have i:x.op≠29:= λe=>by rw[bG.o e]at a8;simp at a8);(have e1:Bv p f x sh=BT p f x sh:=by unfold Bv;rw[lE i]);rw[e1]at a8;show A6 p f x sh=3;unfold A6;rw[lE i];exact Qb (by rw[ah.o i];exact ae.o.1) (by unfold Hf;rw[ah.o i];exact ae.o.2) HG.o a8);have bK:(64:Int)<((Bv p f x sh).length:Int):=oM;clear a8;go_wp2_with fail;go_ret;exact⟨by rw[I.o];rfl,E8.o.1.io, λe=>absurd (I.o.symm.trans e) dC⟩
        . have I:Aa (A6 p f x sh=0):=by
           show A6 p f x sh=0;unfold A6;split
           . rename_i L;rw[lS];rw[HB.o L,<-aA.o,MS L]
           rename_i i;(have e1:Bv p f x sh=BT p f x sh:=by unfold Bv;rw[lE i]);rw[e1]at a8;exact Qa (by rw[ah.o i];exact ae.o.1) (by unfold Hf;rw[ah.o i];exact ae.o.2) HG.o a8
          have bK:¬(64:Int)<((Bv p f x sh).length:Int):=oM;clear a8;go_wp2_with fail;go_ret;exact⟨by rw[I.o];rfl,E8.o.1.io, λ_=>⟨V',E8.o.2.1,E8.o.2.2⟩⟩
def Wf(F:List (List Int×J)):List (J×List Int):=F.map λx=>(x.2,x.1)
structure FV(w:Y)(base:Nat)(s:J)(F:List (List Int×J)):Prop where
 row:w.ownsRow base 36 1 s F (F.flatMap AZ)
 gW:CU w base (Wf F)
theorem CU.jQ{a:Y}{L:List (J×List Int)}(h:CU w base L)(b:Ad w w a):CU a base L:=⟨λx e=>Am (h.own x e) b lR,h.sep⟩
theorem FV.bM(h:FV w base s F)(a:Ad w w b):FV b base s F:=⟨Am h.row a lR,h.gW.jQ a⟩
theorem FV.rd(h:FV w base s F):NM w s (F.map Prod.fst):=⟨F,rfl,by rw[kW];exact Rd.gM h.row, λx a=>Rd.gM (h.gW.own (x.2,x.1) (lK.2 ⟨x,a,rfl⟩))⟩
def Wp:Prop:=∀(v:VP) (p:MP) (a:Int) (w:Y),p.small->p.wf->Cz w v p->Dm w v.r p.a7->GY w v.f p.cC->Ae Tryz.prog 5 #[.agg #[v.r,v.k,v.f,v.t],Ac Ab a] w λe b=>∃y,IU p a y/\∃(s:J) (F:List (List Int×J)),e=.returned (.agg #[Ac Ab y.ch,Ac Ab y.at_,Ac Ab y.depth,s])/\FV b w s F/\F.map Prod.fst=y.gU/\F.length<=1024/\(∀x∈F,x.1.length<=64)/\Ad w w b
def Ws:Prop:=∀(v:VP) (p:MP) (a:Int) (w:Y),p.small->p.wf->CO a->Cz w v p->Ae Tryz.prog 6 #[.agg #[v.r,v.k,v.f,v.t],Ac Ab a] w λe b=>∃(y:RQ) (s:J),e=.returned (.agg #[Ac Ab y.ch,Ac Ab y.at_,Ac Ab y.depth,s])/\IU p a y/\NM b s y.gU/\Ad w w b
def Wo:Prop:=∀(v:VP) (p:MP) (b:Int) (g:J) (a:List (List Int)) (w:Y),p.small->p.wf->Cz w v p->Dm w v.r p.a7->GY w v.f p.cC->Dm w g a->(∀r∈a,r.length<=1048576)->a.length<=1048576->Ae Tryz.prog 7 #[.agg #[v.r,v.k,v.f,v.t],Ac Ab b,g] w λe h=>AC e (B8 p b a)/\Ad w w h
def Wr:Prop:=∀(v:VP) (p:MP) (b:Int) (g:J) (a:List (List Int)) (w:Y),p.small->p.wf->CO b->Cz w v p->a.length<=1048576->(∀r∈a,r.length<=1048576)->Dm w g a->Ae Tryz.prog 8 #[.agg #[v.r,v.k,v.f,v.t],Ac Ab b,g] w λe h=>AC e (B8 p b a)/\Ad w w h
theorem T3(h:w.ownsRow base e k (Z (K ⟨g,0,M⟩) n c) n xs):base<=g/\∃a,w.heap[g]?=K (Obj.cells a e (0,0)):=by
 rcases h.2 with⟨b,_⟩|⟨l,j,a,b,f,i,_⟩
 . cases b
 cases b
 exact⟨f,a,i⟩
theorem QL{p n':Nat}{f:Af}{r:List J}(h:u.ownsRow B e k s n xs)(l:u.ownsRow j f p (Z g n' c) n' r)(m:e≠f)(i:Nat)(z:J):(u.setCell ⟨g,i,M⟩ z).ownsRow B e k s n xs:=by
 obtain⟨_,v,h1⟩:=T3 l;refine kO h (a:=⟨g,i,M⟩) (λq=> ?_) z;rcases h.2 with⟨rfl,_⟩|⟨A,t,y,rfl,_,b,_⟩
 . cases q
 simp only[Value.ownBlock,kK]at q;subst q;rw[h1]at b;simp only[kK,mh]at b;exact m b.2.1.symm
theorem CodeAt.ir{len:Nat}(h:CodeAt w g a len)(f:g<=w.heap.size)(e:Ad g w b):CodeAt b g a len:=h.iu lR f (λk i=>e.block k i)
theorem FV.jD(h:FV w base s F):Dm w s (F.map Prod.fst):=⟨F,rfl,by rw[kW];exact Rd.gM h.row, λx a=>⟨Rd.gM (h.gW.own (x.2,x.1) (lK.2 ⟨x,a,rfl⟩)),DR (h.gW.own (x.2,x.1) (lK.2 ⟨x,a,rfl⟩))⟩⟩
structure Sw(w U:Y)(P:Nat)(v:VP)(x:MP):Prop where
 bx:Ar U P #[v.r,v.k,v.f,v.t] 28
 rd:Cz U v x
 rc:Dm U v.r x.a7
 fp:GY U v.f x.cC
 gG:Ad w w U
theorem Sw.bM{x:MP}(h:Sw w U P v x)(a:Ad U.heap.size U b):Sw w b P v x:=⟨h.bx.bM a,h.rd.bM a lR,h.rc.bM a lR,h.fp.bM a lR,h.gG.trans (a.mono h.gG.size)⟩
structure US(w U:Y)(P R B:Nat)(v:VP)(x:MP)(y:RQ)(ga:Option Addr)(gc:Nat)(F:List (List Int×J)):Prop where
 sw:Sw w U P v x
 rb:Ar U R #[Ac Ab y.ch,Ac Ab y.at_,Ac Ab y.depth,Z ga F gc] 32
 ow:FV U B (Z ga F.length gc) F
theorem US.bM{x:MP}{e:Option Addr}{f:Nat}(h:US w U P R B v x y e f F)(a:Ad U U b):US w b P R B v x y e f F:=⟨h.sw.bM a,h.rb.bM a,h.ow.bM a⟩
theorem O7(h:w.ownsRow base e k (Z a n c) n xs)(i:0<n):∃g,a=K ⟨g,0,M⟩:=by
 rcases h.2 with⟨e0,_⟩|⟨g,cap,f,b,_⟩
 . simp only[jc]at e0;omega
 simp only[jc]at b;exact⟨g,b.1⟩
theorem US.row{q:Nat}{x:MP}{z:List Int×J}(h:US w U P R B v x y g i F)(a:F[q]?=K z):∃b c,z.2=Z b z.1 c/\U.cell? ⟨g,q,M⟩=K (Z b z.1 c):=by
 obtain⟨b,c,e,_⟩:=DR (h.ow.gW.own (z.2,z.1) (lK.2 ⟨z,i8 a,rfl⟩));refine⟨b,c,e,?_⟩;rcases(Rd.gM h.ow.row).2 with⟨e0,_⟩|⟨k,o,c',f,j⟩
 . have:=(iV.1 a).1;omega
 simp only[jc,kK,mA]at f;obtain⟨⟨rfl,rfl,_⟩,_⟩:=f;have:=Rd.elem AY j q z a 0 z.2 rfl;rw[<-e];simpa using this
theorem LQ(hM:S7)(bH:Wp)(bO:Ws)(aP:Wo)(bL:Wr)(a0 a1:Option Addr)(aw aI au aD:Nat)(w:Y)(ce:aw<=1048576)(cg:au<=1048576)(aR:CodeAt w w.heap.size a0 aw)(aS:CodeAt w w.heap.size a1 au):
 Ae Tryz.prog 3 #[Z a0 aw aI,Z a1 au aD] w λe w'=>e=.returned (.bool true)/\Ad w w w':=by
 have HC:=Ap (ji aR aS);have bP:¬(1048576:Int)<(aw:Int):=oM;have bQ:¬(1048576:Int)<(au:Int):=oM;clear aR aS;go_enter Tryz.func3,Tryz.ntmps3;go_wp2_with fail;refine(LN hM a0 aw aI w oM HC.o.1).mono ?_;rintro e w1 ⟨v,x,f,rfl,aq,aZ,aU,aF,f0,f1,i⟩;obtain⟨l,A,a12,c12,p,C,a14,c14,ev⟩:=aq.jn;subst ev;have bg:=aF.small oM;have bq:=aF.wf;have br:CO f:=Bm oM oM;have T:=Ap (ji bg (ji bq br));have E0:Aa (Sw w (w1.alloc (.cells #[Z l x.a7.length A,Z a12 x.aC.length c12,Z p x.cC.length C,Z a14 x.dr.length c14] 28)) w1.heap.size ⟨Z l x.a7.length A,Z a12 x.aC.length c12,Z p x.cC.length C,Z a14 x.dr.length c14⟩ x):=by have bb:=Ag w1 (.cells #[Z l x.a7 A,Z a12 x.aC c12,Z p x.cC C,Z a14 x.dr c14] 28);exact⟨Ar.new _ _ _,aq.bM bb lR,aZ.bM bb lR,aU.bM bb lR,i.trans (bb.mono i.size)⟩
 clear aq aZ aU aF i bg bq br bP bQ;go_upto_region 4 with fail
 generalize w1.heap.size=P at E0⊢;refine An (λU=>Aa (Sw w U P ⟨Z l x.a7.length A,Z a12 x.aC.length c12,Z p x.cC.length C,Z a14 x.dr.length c14⟩ x)) E0 ?_;clear E0;rintro U1 E1;have k0:U1.cell? P=K (Z l x.a7 A):=E1.o.bx.cell 0;have k1:U1.cell? ⟨P,1,M⟩=K (Z a12 x.aC.length c12):=E1.o.bx.cell 1;have k2:U1.cell? ⟨P,2,M⟩=K (Z p x.cC C):=E1.o.bx.cell 2;have k3:U1.cell? ⟨P,3,M⟩=K (Z a14 x.dr.length c14):=E1.o.bx.cell 3;go_wp2_with fail;refine(bH ⟨Z l x.a7 A,Z a12 x.aC c12,Z p x.cC C,Z a14 x.dr c14⟩ x f U1 T.o.1 T.o.2.1 E1.o.rd E1.o.rc E1.o.fp).mono ?_;rintro e U2 ⟨y,bj,s,F,rfl,aE,hF,aJ,aM,i⟩;obtain⟨ga,D,rfl⟩:=Az aE.row;have E2:Aa (US w (U2.alloc (.cells #[Ac Ab y.ch,Ac Ab y.at_,Ac Ab y.depth,Z ga F.length D] 32)) P U2.heap.size U1.heap.size ⟨Z l x.a7.length A,Z a12 x.aC.length c12,Z p x.cC.length C,Z a14 x.dr.length c14⟩ x y ga D F):=
  ⟨(E1.o.bM i).bM (Ag _ _),Ar.new _ _ _,aE.bM (Ag _ _)⟩
 have N:=Ap (ji hF (ji aJ aM));have HT:=Ap bj;clear aE hF aJ aM i bj k0 k1 k2 k3;go_upto_region 5 with fail
 generalize U2.heap.size=R at E2⊢;refine An (λU=>Aa (US w U P R U1 ⟨Z l x.a7 A,Z a12 x.aC c12,Z p x.cC C,Z a14 x.dr c14⟩ x y ga D F)) E2 ?_;clear E2;rintro O j;generalize U1.heap.size=B at j;rcases HT.o.law with⟨aY,bf⟩|⟨h0,aQ,aT,aW,bi⟩
 case inl=>
  have r0:O.cell? ⟨R,0,M⟩=K (Ac Ab y.ch):=j.o.rb.cell 0;have k0:O.cell? P=K (Z l x.a7 A):=j.o.sw.bx.cell 0;have k1:O.cell? ⟨P,1,M⟩=K (Z a12 x.aC.length c12):=j.o.sw.bx.cell 1;have k2:O.cell? ⟨P,2,M⟩=K (Z p x.cC C):=j.o.sw.bx.cell 2;have k3:O.cell? ⟨P,3,M⟩=K (Z a14 x.dr.length c14):=j.o.sw.bx.cell 3;have cA:(y.ch==0)=false:=by rw[nD];exact aY
  have HL:Aa (F.length=0):=by have:=congrArg List.length N.o.1;rw[bf,kW]at this;exact this
  clear bf aY;go_wp2_with fail;refine(bO ⟨Z l x.a7 A,Z a12 x.aC c12,Z p x.cC C,Z a14 x.dr c14⟩ x f O T.o.1 T.o.2.1 T.o.2.2 j.o.sw.rd).mono ?_;rintro e U4 ⟨y',s',rfl,bp,aq,i⟩;obtain rfl:=HT.o.one bp;obtain⟨sa,sc,rfl⟩:∃a c,s'=Z a y.gU.length c:=by obtain⟨_,_,h2,_⟩:=aq;exact h2.fu
  have I:Aa (Ar (U4.alloc (.cells #[Ac Ab y.ch,Ac Ab y.at_,Ac Ab y.depth,Z sa y.gU sc] 32)) R #[Ac Ab y.ch,Ac Ab y.at_,Ac Ab y.depth,Z ga F D] 32/\Ar (U4.alloc (.cells #[Ac Ab y.ch,Ac Ab y.at_,Ac Ab y.depth,Z sa y.gU sc] 32)) U4 #[Ac Ab y.ch,Ac Ab y.at_,Ac Ab y.depth,Z sa y.gU sc] 32/\Ad w w (U4.alloc (.cells #[Ac Ab y.ch,Ac Ab y.at_,Ac Ab y.depth,Z sa y.gU sc] 32))):=
   ⟨((j.o.bM i).bM (Ag _ _)).rb,Ar.new _ _ _,((j.o.bM i).bM (Ag _ _)).sw.gG⟩
  clear bp aq i r0 k0 k1 k2 k3;go_upto_region 7 with fail
  generalize U4.heap.size=Q at I⊢;refine An (λU=>Aa (Ar U R #[Ac Ab y.ch,Ac Ab y.at_,Ac Ab y.depth,Z ga F.length D] 32/\Ar U Q #[Ac Ab y.ch,Ac Ab y.at_,Ac Ab y.depth,Z sa y.gU.length sc] 32/\Ad w.heap.size w U)) I ?_
  clear I;rintro U5 E5;have r0:U5.cell? R=K (Ac Ab y.ch):=E5.o.1.cell 0;have r1:U5.cell? ⟨R,1,M⟩=K (Ac Ab y.at_):=E5.o.1.cell 1;have r3:U5.cell? ⟨R,3,M⟩=K (Z ga F.length D):=E5.o.1.cell 3;have q0:U5.cell? Q=K (Ac Ab y.ch):=E5.o.2.1.cell 0;have q1:U5.cell? ⟨Q,1,M⟩=K (Ac Ab y.at_):=E5.o.2.1.cell 1;have cu:F.length=0:=HL.o;go_wp2_with fail;go_ret;exact⟨rfl,E5.o.2.2⟩
 case inr=>
  have HN:=Ap (ji aT (ji aW (ji bi aQ)));have bY:1<=F.length/\F.length<=1024:=by have:=congrArg List.length N.o.1;rw[kW]at this;exact⟨oM,N.o.2.1⟩
  have HR:Aa (∀r∈F.map Prod.fst,r.length<=1048576):= λr hr=>by obtain⟨z,hz,rfl⟩:=lK.1 hr;have:=N.o.2.2 z hz;omega
  clear aT aW bi aQ;obtain⟨g,rfl⟩:=O7 j.o.ow.row oM;have r0:O.cell? ⟨R,0,M⟩=K (Ac Ab y.ch):=j.o.rb.cell 0;rw[h0]at r0;have r3:O.cell? ⟨R,3,M⟩=K (Z g F D):=j.o.rb.cell 3;have k0:O.cell? ⟨P,0,M⟩=K (Z l x.a7.length A):=j.o.sw.bx.cell 0;have k1:O.cell? ⟨P,1,M⟩=K (Z a12 x.aC c12):=j.o.sw.bx.cell 1;have k2:O.cell? ⟨P,2,M⟩=K (Z p x.cC.length C):=j.o.sw.bx.cell 2;have k3:O.cell? ⟨P,3,M⟩=K (Z a14 x.dr c14):=j.o.sw.bx.cell 3;have HY:=Ap h0;clear h0;go_wp2_with fail;refine(aP ⟨Z l x.a7.length A,Z a12 x.aC.length c12,Z p x.cC.length C,Z a14 x.dr.length c14⟩ x f (Z (K ⟨g,0,M⟩) F.length D) (F.map Prod.fst) O T.o.1 T.o.2.1 j.o.sw.rd j.o.sw.rc j.o.sw.fp j.o.ow.jD HR.o (by rw[kW];omega)).mono ?_;rintro e U4 ⟨⟨b,rfl,am⟩,i⟩;obtain rfl:b=true:=am.2 (by rw[N.o.1];exact HN.o.2.2.2);have I:=Ap (j.o.bM i);clear am i j r0 r3 k0 k1 k2 k3;have r3:U4.cell? ⟨R,3,M⟩=K (Z g F D):=I.o.rb.cell 3;have k0:U4.cell? ⟨P,0,M⟩=K (Z l x.a7.length A):=I.o.sw.bx.cell 0;have k1:U4.cell? ⟨P,1,M⟩=K (Z a12 x.aC c12):=I.o.sw.bx.cell 1;have k2:U4.cell? ⟨P,2,M⟩=K (Z p x.cC.length C):=I.o.sw.bx.cell 2;have k3:U4.cell? ⟨P,3,M⟩=K (Z a14 x.dr.length c14):=I.o.sw.bx.cell 3;go_wp2_with fail;refine(bL ⟨Z l x.a7.length A,Z a12 x.aC.length c12,Z p x.cC.length C,Z a14 x.dr.length c14⟩ x f (Z (K ⟨g,0,M⟩) F.length D) (F.map Prod.fst) U4 T.o.1 T.o.2.1 T.o.2.2 I.o.sw.rd (by rw[kW];omega) HR.o I.o.ow.jD).mono ?_;rintro e U5 ⟨⟨b,rfl,am⟩,i⟩;obtain rfl:b=true:=am.2 (by rw[N.o.1];exact HN.o.2.2.2);have E5:=Ap (I.o.bM i);clear am i I r3 k0 k1 k2 k3;have r3:U5.cell? ⟨R,3,M⟩=K (Z (K ⟨g,0,M⟩) F.length D):=E5.o.rb.cell 3;go_wp2_with fail
  refine(OV a1 au aD 0 (F.length:Int) w.heap.size U5 oM (HC.o.2.ir lR E5.o.sw.gG) oM oM oM).mono ?_;rintro e U6 ⟨r,p0,p1,rfl,nq,rfl⟩;obtain⟨k,rfl⟩:=kU p0;have hk:k<F.length:=oM;have E6:Aa (US w (U5.drewN nq) P R B ⟨Z l x.a7.length A,Z a12 x.aC.length c12,Z p x.cC.length C,Z a14 x.dr.length c14⟩ x y (K ⟨g,0,M⟩) D F):=E5.o.bM (As _ _ _);clear p0 p1 E5 r3;generalize U5.drewN nq=U6 at E6⊢;go_wp2_with fail;go_loopw [10] (λiv wr=>∃q:Nat,q<=F.length/\iv=Ac Ab (q:Int)/\Aa (US w wr P R B ⟨Z l x.a7.length A,Z a12 x.aC.length c12,Z p x.cC.length C,Z a14 x.dr.length c14⟩ x y (K ⟨g,0,M⟩) D F)) (λiv _=>F.length-(intOf iv).toNat)
  case atStart=>exact⟨0,oM,rfl,E6.o⟩
  clear E6;obtain⟨q,hq,rfl,EL⟩:=hrel;have r3:wr.cell? ⟨R,3,M⟩=K (Z (K ⟨g,0,M⟩) F.length D):=EL.o.rb.cell 3;by_cases aX:q<F.length;case pos=>have bS:(q:Int)<(F.length:Int):=oM;obtain⟨z,hz⟩:∃z,F[q]?=K z:=⟨_,an aX⟩;obtain⟨b,c,_,hc⟩:=EL.o.row hz;have r2:wr.cell? ⟨R,2,M⟩=K (Ac Ab y.depth):=EL.o.rb.cell 2;(have hd:¬y.depth<(z.1:Int):=by have:=HN.o.1 q z.1 (by rw[<-N.o.1,lG,hz];rfl);omega);go_wp2_with fail;go_quiet (fail);go_wp2_with fail;go_roundw;(case rel=>exact⟨q+1,oM,by go_num,EL.o.bM (As _ _ _)⟩);exact oI
  case neg=>
   have bS:¬(q:Int)<(F.length:Int):=oM;clear hq aX;obtain⟨iS,bR,bI,bJ,bK⟩:=lU KO;obtain⟨bC,hi,bu,bz,bB⟩:=lU Bt;have aH:Aa (Rd (wr.alloc (.cells #[] 36)) 1 (Z g F D) F (F.flatMap AZ)):=(Rd.gM EL.o.ow.row).bM (Ag _ _) lR;have bT:(wr.alloc (.cells #[] 36)).cell? ⟨R,3,M⟩=K (Z (K ⟨g,0,M⟩) F.length D):=(EL.o.bM (Ag _ _)).rb.cell 3;(have HO:Aa (∀u∈F.flatMap AZ,u.oneCell'=true):= λu hu=>by obtain⟨z,hz,hu⟩:=mN.1 hu;obtain⟨b,c,e,_⟩:=DR (EL.o.ow.gW.own (z.2,z.1) (lK.2 ⟨z,hz,rfl⟩));simp only[AZ,lT]at hu;rw[hu];have e:z.2=Z b z.1 c:=e;rw[e];rfl);(go_upto_region 17 with(at_builtin;refine Hl rfl (.tmp 87) (.tmp 89) wr.heap.size 23 36 iS (Z M 0 0) 1 24 rfl Tryz.underlying23 bR bI bJ bK rfl dC (sG wr.heap.size 0 0) 0 [] rfl (CM wr _ _) (Z (K ⟨g,0,M⟩) F.length D) F.length (F.flatMap AZ) rfl aH.o (by rw[Au AZ 1 AY]) HO.o oX oM sP ?_;intro v1 aG H g2 g3));simp only[lY,lg]at H;obtain⟨va,vc,rfl⟩:=Az H;obtain⟨G,rfl⟩:=O7 H oM;have ao:Ad wr wr aG:=(Ag _ _).grown g2 sP (λk hk=>by cases hk;exact Nat.le_refl _);have S:Aa (Ad wr.heap.size wr aG/\aG.ownsRow wr.heap.size 36 1 (Z (K ⟨G,0,M⟩) F.length vc) F.length (F.flatMap AZ)):=⟨ao,H⟩
   clear H g2 g3 ao aH bT r3;refine An (λU=>Aa (Ad wr wr U/\U.ownsRow wr 36 1 (Z G F vc) F (F.flatMap AZ))) S ?_
   clear S;rintro U7 S;have hG:=(S.o.2.lt G rfl).1;obtain⟨z,hz⟩:∃z,F[k]?=K z:=⟨_,an hk⟩;obtain⟨b,c,ez,_⟩:=EL.o.row hz;have cj:(k:Int)<(F.length:Int):=oM;have HZ:Aa (∀W:Y,Ad wr wr W->W.ownsRow wr 36 1 (Z G F vc) F (F.flatMap AZ)->W.cell? ⟨G,k,M⟩=K (Z b z.1 c)/\Rd W 1 (Z b z.1 c) z.1 (z.1.flatMap Ah)):= λW hW hR=>by
    refine⟨?_,?_⟩
    . rcases(Rd.gM hR).2 with⟨e0,_⟩|⟨g',o,c',e1,hc⟩
      . omega
      simp only[jc,kK,mA]at e1;obtain⟨⟨rfl,rfl,_⟩,_⟩:=e1;have:=Rd.elem AY hc k z hz 0 z.2 rfl;rw[<-ez];simpa using this
    rw[<-ez];exact Rd.gM ((EL.o.bM hW).ow.gW.own (z.2,z.1) (lK.2 ⟨z,i8 hz,rfl⟩))
   have cD:=N.o.2.2 z (i8 hz);have b7:Ad U7.heap.size U7 (U7.alloc (.cells #[] 2)):=Ag _ _;have H7:=Ap (HZ.o _ (S.o.1.trans (b7.mono S.o.1.size)) (Am S.o.2 b7 lR));have c7:=H7.o.1;clear b7;go_wp2_with (at_builtin;refine Hl rfl (.tmp 93) (.tmp 97) U7 36 2 bC (Ac Ab 0) 1 8 rfl Tryz.underlying36 hi bu bz bB rfl dC (sG U7 0 0) 0 [] rfl (CM U7 _ _) (Z b z.1 c) z.1 (z.1.flatMap Ah) rfl H7.o.2 (by rw[Au Ah 1 Ao]) (BZ _) oX oM sP ?_;intro v2 a8 H g2 g3);simp only[lY,lg]at H;obtain⟨ua,uc,rfl⟩:=Az H;have ao:Ad U7.heap.size U7 a8:=(Ag _ _).grown g2 sP (λk hk=>by cases hk;exact Nat.le_refl _);have E8:Aa (Ad wr wr a8/\a8.ownsRow wr 36 1 (Z G F vc) F (F.flatMap AZ)/\a8.ownsRow wr 2 1 (Z ua z.1 uc) z.1 (z.1.flatMap Ah)):=⟨S.o.1.trans (ao.mono S.o.1.size),Am S.o.2 ao lR,Bb H S.o.1.size⟩
   clear H g2 g3 ao c7 H7 S;refine(OV a1 au aD 1 3 w.heap.size a8 oM (HC.o.2.ir lR (EL.o.sw.gG.trans (E8.o.1.mono EL.o.sw.gG.size))) oM oM oM).mono ?_;rintro e U9 ⟨t,t0,t1,rfl,nq,rfl⟩;have E9:Aa (Ad wr wr (a8.drewN nq)/\(a8.drewN nq).ownsRow wr 36 1 (Z G F vc) F (F.flatMap AZ)/\(a8.drewN nq).ownsRow wr 2 1 (Z ua z.1 uc) z.1 (z.1.flatMap Ah)):=by have i:=As a8.heap.size a8 nq;exact⟨E8.o.1.trans (i.mono E8.o.1.size),Am E8.o.2.1 i lR,Am E8.o.2.2 i lR⟩
   clear E8;generalize a8.drewN nq=U9 at E9⊢;have ht:IntKind.i64.wrap (1+t)=1+t:=mY _ oM;have ho:=Ap E9.o.2.2;have bZ:=E9.o.1.size;go_upto_region 18 with(at_builtin;refine wpList_append_own _ rfl _ _ 36 rfl wr 2 bC (Ac Ab 0) 1 8 Tryz.underlying36 hi bu bz bB rfl dC _ _ _ rfl (ho.o.alloc _) U9 1 1 [Ac Ab (1+t)] rfl rfl (cell_one_new _ _ _) (λu hu=>by simp at hu;subst hu;rfl) oX oM oT ?_;intro v3 ae H g2 g3;obtain⟨xa,xc,rfl⟩:=Az H;have b9:Ad U9 U9 (U9.alloc (.cells #[Ac Ab (1+t)] 2)):=Ag _ _;have ah:Aa (Ad wr wr ae/\ae.ownsRow wr 36 1 (Z G F vc) F (F.flatMap AZ)/\ae.ownsRow wr 2 1 (Z xa (z.1.length+1) xc) (z.1.length+1) (z.1.flatMap Ah++[Ac Ab (1+t)])):=⟨(E9.o.1.trans (b9.mono E9.o.1.size)).grown g2 oT (λk hk=>(ho.o.lt k hk).1),BU (Am E9.o.2.1 b9 lR) g2 (ho.o.alloc _) dC,H⟩;have bG:=(HZ.o ae ah.o.1 ah.o.2.1).1;have bV:ae.frozen? ⟨G,k,M⟩=false:=mR ah.o.2.1 k;clear H g2 g3 b9 E9)
   have aA:Aa (Ad wr.heap.size wr (ae.setCell ⟨G,k,M⟩ (Z xa (z.1.length+1) xc))/\Dm (ae.setCell ⟨G,k,M⟩ (Z xa (z.1.length+1) xc)) (Z (K ⟨G,0,M⟩) F.length vc) (y.gU.set k (z.1++[1+t]))):=by
    have i:=ah.o.1.setCell (show ↑wr<=(⟨G,k,M⟩:Addr).block from hG) (Z xa (z.1.length+1) xc)
    have h1:=(ah.o.2.1.stored k (Z xa (z.1.length+1) xc)).1;have h3:=QL ah.o.2.2 ah.o.2.1 dC k (Z xa (z.1.length+1) xc);have hS:=(EL.o.bM i).ow;have e:∀L:List (List Int×J),L.flatMap AZ=L.map Prod.snd:= λL=>by
     induction L with
     |nil=>rfl
     |cons a L ih=>rw[kX,ih];rfl
    refine⟨i,F.set k (z.1++[1+t],(Z xa (z.1.length+1) xc)),?_,?_, λu hu=> ?_⟩
    . rw[List.map_set,N.o.1]
    . rw[e]at h1;rw[mU,<-N.o.1,kW,e,List.map_set];exact Rd.gM h1
    rcases m7 hu with h|rfl
    . have q:=hS.gW.own (u.2,u.1) (lK.2 ⟨u,h,rfl⟩);exact⟨Rd.gM q,DR q⟩
    (have q:(ae.setCell ⟨G,k,M⟩ (Z xa (z.1.length+1) xc)).ownsRow wr.heap.size 2 1 (Z xa (z.1.length+1) xc) (z.1++[1+t]).length ((z.1++[1+t]).flatMap Ah):=by simpa[Ah]using h3);exact⟨Rd.gM q,DR q⟩
   clear ah bG bV ho HZ;generalize (ae.setCell ⟨G,k,M⟩ (Z xa (z.1.length+1) xc))=W at aA⊢;have aj:=Ap (EL.o.bM aA.o.1);have k0:W.cell? P=K (Z l x.a7 A):=aj.o.sw.bx.cell 0;have k1:W.cell? ⟨P,1,M⟩=K (Z a12 x.aC.length c12):=aj.o.sw.bx.cell 1;have k2:W.cell? ⟨P,2,M⟩=K (Z p x.cC C):=aj.o.sw.bx.cell 2;have k3:W.cell? ⟨P,3,M⟩=K (Z a14 x.dr.length c14):=aj.o.sw.bx.cell 3;(have bt:y.gU.length=F.length:=by rw[<-N.o.1,kW]);have HQ:=Ap bt;clear bt;go_wp2_with fail;refine(aP ⟨Z l x.a7 A,Z a12 x.aC c12,Z p x.cC C,Z a14 x.dr c14⟩ x f (Z G F vc) (y.gU.set k (z.1++[1+t])) W T.o.1 T.o.2.1 aj.o.sw.rd aj.o.sw.rc aj.o.sw.fp aA.o.2 (λr hr=> ?_) (by rw[mU,HQ.o];omega)).mono ?_
   . rcases m7 hr with h|rfl
     . exact HR.o r (by rw[N.o.1];exact h)
     simp;omega
   rintro e bX ⟨⟨b',rfl,am⟩,i⟩;have hf:b'=false:=by
    cases b' with
    |false=>rfl
    |true=>exact absurd (am.1 rfl) (HN.o.2.2.1 k z.1 (1+t) (by rw[<-N.o.1,lG,hz];rfl))
   subst hf;have bF:=Ap (aj.o.bM i).sw.gG;clear am i;go_wp2_with fail;go_ret;exact⟨rfl,bF.o⟩
theorem TJ(v:VP)(p:MP)(g:VF)(f:MF)(x:MI)(w:Y)(A:p.small)(I:p.a7.length=3)(T:f.small)(ae:x.wf)(h:Cz w v p)(S:Dt w g f)(N:AK p f x):
 Ae Tryz.prog 41 #[.agg #[v.r,v.k,v.f,v.t],.agg #[g.p,Ac Ab f.gz,g.l,g.c],.agg #[Ac Ab x.op,Ac Ab x.a,Ac Ab x.b,Ac Ab x.c]] w (DH w (Ax p f x) (Aw p f x)):=by
 obtain⟨op,a,b,c⟩:=x;have a8:=N.1;have W:=N.2.1;simp only[]at a8 W;have F:Aa (AK p f ⟨op,a,b,c⟩):=N;have R:CO a:=ae.2.1;have ah:op=0\/op=1\/op=2\/op=3\/op=4\/op=5\/op=6\/op=7\/op=8\/op=9\/op=10\/op=11\/op=12\/op=13\/op=14\/op=15\/op=16\/op=17\/op=18\/op=19\/op=20\/op=21\/op=22\/op=23\/op=24\/op=25\/op=26\/op=27\/op=28\/op=29:=oM
 clear a8 W N ae;rcases ah with rfl|rfl|rfl|rfl|rfl|rfl|rfl|rfl|rfl|rfl|rfl|rfl|rfl|rfl|rfl|rfl|rfl|rfl|rfl|rfl|rfl|rfl|rfl|rfl|rfl|rfl|rfl|rfl|rfl|rfl
 . rw[show Ax p f ⟨0,a,b,c⟩=[]from by simp[Ax],show Aw p f ⟨0,a,b,c⟩=[]from by simp[Aw]];exact Cu v.r v.k v.f v.t g.p g.l g.c f _ 0 a b c _ _ w sP
 . obtain⟨q,z,i,j⟩:=F.o.const rfl;simp only[]at i;subst i;obtain⟨ak,ck,Q⟩:=h.aC.fu;rw[show Ax p f ⟨1,q,b,c⟩=[]from by simp[Ax],show Aw p f ⟨1,q,b,c⟩=[z.type]from by simp[Aw,VN,j],Q];exact WJ v.r v.f v.t g.p g.l g.c f p.aC ak ck q z b c w A.aC (Q▸h.aC) j
 . rw[show Ax p f ⟨2,a,b,c⟩=[]from by simp[Ax],show Aw p f ⟨2,a,b,c⟩=[Ay f a]from by simp[Aw]];exact WK v.r v.k v.f v.t g f a b c w T R S
 . rw[show Ax p f ⟨3,a,b,c⟩=[Ay f a]from by simp[Ax],show Aw p f ⟨3,a,b,c⟩=[]from by simp[Aw]];exact WL v.r v.k v.f v.t g f a b c w T R S
 . obtain⟨q,z,r,i,j,y,D⟩:=F.o.cell I sP;simp only[]at i j;subst i j;obtain⟨xs,G,B,e3⟩:=h.a7;obtain⟨C,cr,s⟩:=B.fu;rw[show Ax p f ⟨4,q,z,c⟩=[]from by simp[Ax],show Aw p f ⟨4,q,z,c⟩=[DJ p ⟨4,q,z,c⟩]from by simp[Aw],s];exact WM v.k v.f v.t g.p g.l g.c f p.a7 C cr q z r _ c w A.a7 (A.region r (i8 y)) (s▸h.a7) y D
 . obtain⟨q,z,r,i,j,y,D⟩:=F.o.cell I sP;simp only[]at i j;subst i j;obtain⟨xs,G,B,e3⟩:=h.a7;obtain⟨C,cr,s⟩:=B.fu;rw[show Ax p f ⟨5,q,z,c⟩=[DJ p ⟨5,q,z,c⟩]from by simp[Ax],show Aw p f ⟨5,q,z,c⟩=[]from by simp[Aw],s];exact WN v.k v.f v.t g.p g.l g.c f p.a7 C cr q z r _ c w A.a7 (A.region r (i8 y)) (s▸h.a7) y D
 . obtain⟨q,z,r,i,j,y,D⟩:=F.o.cell I sP;simp only[]at i j;subst i j;obtain⟨xs,G,B,e3⟩:=h.a7;obtain⟨C,cr,s⟩:=B.fu;rw[show Ax p f ⟨6,q,z,c⟩=[3]from by simp[Ax],show Aw p f ⟨6,q,z,c⟩=[DJ p ⟨6,q,z,c⟩]from by simp[Aw],s];exact WO v.k v.f v.t g.p g.l g.c f p.a7 C cr q z r _ c w A.a7 (A.region r (i8 y)) (s▸h.a7) y D
 . obtain⟨q,z,r,i,j,y,D⟩:=F.o.cell I sP;simp only[]at i j;subst i j;obtain⟨xs,G,B,e3⟩:=h.a7;obtain⟨C,cr,s⟩:=B.fu;rw[show Ax p f ⟨7,q,z,c⟩=[3,DJ p ⟨7,q,z,c⟩]from by simp[Ax],show Aw p f ⟨7,q,z,c⟩=[]from by simp[Aw],s];exact WP v.k v.f v.t g.p g.l g.c f p.a7 C cr q z r _ c w A.a7 (A.region r (i8 y)) (s▸h.a7) y D
 . rw[show Ax p f ⟨8,a,b,c⟩=[a,a]from by simp[Ax],show Aw p f ⟨8,a,b,c⟩=[a]from by simp[Aw]];exact Cu v.r v.k v.f v.t g.p g.l g.c f _ 5 a b c _ _ w sP
 . rw[show Ax p f ⟨9,a,b,c⟩=[a,a]from by simp[Ax],show Aw p f ⟨9,a,b,c⟩=[a]from by simp[Aw]];exact Cu v.r v.k v.f v.t g.p g.l g.c f _ 5 a b c _ _ w sP
 . rw[show Ax p f ⟨10,a,b,c⟩=[a,a]from by simp[Ax],show Aw p f ⟨10,a,b,c⟩=[a]from by simp[Aw]];exact Cu v.r v.k v.f v.t g.p g.l g.c f _ 5 a b c _ _ w sP
 . rw[show Ax p f ⟨11,a,b,c⟩=[a,a]from by simp[Ax],show Aw p f ⟨11,a,b,c⟩=[a]from by simp[Aw]];exact Cu v.r v.k v.f v.t g.p g.l g.c f _ 5 a b c _ _ w sP
 . rw[show Ax p f ⟨12,a,b,c⟩=[a,a]from by simp[Ax],show Aw p f ⟨12,a,b,c⟩=[a]from by simp[Aw]];exact Cu v.r v.k v.f v.t g.p g.l g.c f _ 5 a b c _ _ w sP
 . rw[show Ax p f ⟨13,a,b,c⟩=[a,a]from by simp[Ax],show Aw p f ⟨13,a,b,c⟩=[a]from by simp[Aw]];exact Cu v.r v.k v.f v.t g.p g.l g.c f _ 6 a b c _ _ w sP
 . rw[show Ax p f ⟨14,a,b,c⟩=[a,a]from by simp[Ax],show Aw p f ⟨14,a,b,c⟩=[a]from by simp[Aw]];exact Cu v.r v.k v.f v.t g.p g.l g.c f _ 6 a b c _ _ w sP
 . rw[show Ax p f ⟨15,a,b,c⟩=[a,a]from by simp[Ax],show Aw p f ⟨15,a,b,c⟩=[a]from by simp[Aw]];exact Cu v.r v.k v.f v.t g.p g.l g.c f _ 6 a b c _ _ w sP
 . rw[show Ax p f ⟨16,a,b,c⟩=[a]from by simp[Ax],show Aw p f ⟨16,a,b,c⟩=[a]from by simp[Aw]];exact Cu v.r v.k v.f v.t g.p g.l g.c f _ 6 a b c _ _ w sP
 . rw[show Ax p f ⟨17,a,b,c⟩=[3,3]from by simp[Ax],show Aw p f ⟨17,a,b,c⟩=[3]from by simp[Aw]];exact Cu v.r v.k v.f v.t g.p g.l g.c f _ 0 a b c _ _ w sP
 . rw[show Ax p f ⟨18,a,b,c⟩=[3,3]from by simp[Ax],show Aw p f ⟨18,a,b,c⟩=[3]from by simp[Aw]];exact Cu v.r v.k v.f v.t g.p g.l g.c f _ 0 a b c _ _ w sP
 . rw[show Ax p f ⟨19,a,b,c⟩=[2]from by simp[Ax],show Aw p f ⟨19,a,b,c⟩=[2]from by simp[Aw]];exact Cu v.r v.k v.f v.t g.p g.l g.c f _ 0 a b c _ _ w sP
 . rw[show Ax p f ⟨20,a,b,c⟩=[a,a]from by simp[Ax],show Aw p f ⟨20,a,b,c⟩=[1]from by simp[Aw]];exact Cu v.r v.k v.f v.t g.p g.l g.c f _ 7 a b c _ _ w sP
 . rw[show Ax p f ⟨21,a,b,c⟩=[a,a]from by simp[Ax],show Aw p f ⟨21,a,b,c⟩=[1]from by simp[Aw]];exact Cu v.r v.k v.f v.t g.p g.l g.c f _ 5 a b c _ _ w sP
 . rw[show Ax p f ⟨22,a,b,c⟩=[a]from by simp[Ax],show Aw p f ⟨22,a,b,c⟩=[b]from by simp[Aw]];exact Cu v.r v.k v.f v.t g.p g.l g.c f _ 8 a b c _ _ w sP
 . rw[show Ax p f ⟨23,a,b,c⟩=[0]from by simp[Ax],show Aw p f ⟨23,a,b,c⟩=[0,0]from by simp[Aw]];exact Cu v.r v.k v.f v.t g.p g.l g.c f _ 0 a b c _ _ w sP
 . rw[show Ax p f ⟨24,a,b,c⟩=[0]from by simp[Ax],show Aw p f ⟨24,a,b,c⟩=[]from by simp[Aw]];exact Cu v.r v.k v.f v.t g.p g.l g.c f _ 0 a b c _ _ w sP
 . rw[show Ax p f ⟨25,a,b,c⟩=[]from by simp[Ax],show Aw p f ⟨25,a,b,c⟩=[]from by simp[Aw]];exact Cu v.r v.k v.f v.t g.p g.l g.c f _ 9 a b c _ _ w sP
 . rw[show Ax p f ⟨26,a,b,c⟩=[1]from by simp[Ax],show Aw p f ⟨26,a,b,c⟩=[]from by simp[Aw]];exact Cu v.r v.k v.f v.t g.p g.l g.c f _ 9 a b c _ _ w sP
 . rw[show Ax p f ⟨27,a,b,c⟩=[]from by simp[Ax],show Aw p f ⟨27,a,b,c⟩=[]from by simp[Aw]];exact Cu v.r v.k v.f v.t g.p g.l g.c f _ 10 a b c _ _ w sP
 . obtain⟨q,H,i,L⟩:=F.o.callee rfl;simp only[]at i;subst i;obtain⟨xs,G,B,e3⟩:=h.cC;obtain⟨af,cf,O⟩:=B.fu;rw[show Ax p f ⟨28,q,b,c⟩=H.d5 from by simp[Ax,L],show Aw p f ⟨28,q,b,c⟩=AV H from by simp[Aw,L],O];exact Vp v.r v.k v.t g.p g.l g.c f p.cC af cf q H b c w A.cC (A.func H (i8 L)) (O▸h.cC) L
 rw[show Ax p f ⟨29,a,b,c⟩=[]from by simp[Ax],show Aw p f ⟨29,a,b,c⟩=[]from by simp[Aw]];exact Cu v.r v.k v.f v.t g.p g.l g.c f _ 0 a b c _ _ w sP
structure L6(w u:Y)(v:VP)(g:VF)(f:MF)(x:MI)(N:Nat)(T S:J)(ts gs:List Int)(shv:J)(sh:List Int):Prop where
 gV:S3 w u v g f x.op x.a x.b x.c
 eb:Ar u N #[T,S] 98
 tr:Rd u 1 T ts (ts.flatMap Ah)
 gr:Rd u 1 S gs (gs.flatMap Ah)
 sr:Rd u 1 shv sh (sh.flatMap Ah)
theorem L6.bM{e:Y}{g:VF}{N:Nat}{T S:J}{b:J}(h:L6 w u v g f x N T S ts gs b sh)(a:Ad u u e):L6 w e v g f x N T S ts gs b sh:=⟨h.gV.bM a,h.eb.bM a,h.tr.bM a lR,h.gr.bM a lR,h.sr.bM a lR⟩
theorem Ld{zs:List Int}(h:Rd u 1 (Z a n c) zs (zs.flatMap Ah))(p:n= ↑zs)(g:zs[i]?=K z):∃b f,a=K ⟨b,f,M⟩/\u.cell? ⟨b,f+i,M⟩=K (iZ z):=by
 have m:=(iV.1 g).1;rcases h.2 with⟨e,_⟩|⟨b,f,l,e,k⟩
 . omega
 simp only[jc]at e;have j:=Rd.elem Ao k i _ g 0 _ rfl;rw[lr,kZ]at j;exact⟨b,f,e.1,j⟩
def XA(p:MP)(f:MF)(x:MI)(sh:List Int)(w:Y)(e:Ending)(a:Y):Prop:=∃V,e=.returned (.tuple #[V,iZ (BJ p f x sh)])/\(BJ p f x sh=0->a.ownsRow w 2 1 V (BT p f x sh).length ((BT p f x sh).flatMap Ah))/\Ad w w a
theorem Mm{u:J}(h:((sh.take n).flatMap Ah)[j]?=K u):(sh.flatMap Ah)[j]?=K u:=by
 have e:sh.flatMap Ah=(sh.take n).flatMap Ah++(sh.drop n).flatMap Ah:=by rw[<-lJ,mx]
 rw[e,ld (iV.1 h).1];exact h
def Yk(low:Nat)(sh:List Int)(t:Int):Int:=if t=0 then(sh[low]?).getD 0 else t
def D9(low:Nat)(sh gs:List Int)(k:Nat):List Int:=sh.take low++(gs.take k).map (Yk low sh)
theorem MG{t:Int}(h:gs[k]?=K t):D9 low sh gs (k+1)=D9 low sh gs k++[Yk low sh t]:=by unfold D9;obtain⟨a,rfl⟩:=iV.1 h;rw[lH a,mL,mI];rfl
theorem T0(h:Hf p f x sh=low)(a:Aw p f x=gs):D9 low sh gs gs=BT p f x sh:=by unfold D9 BT;rw[h,a,List.take_length];rfl
theorem OZ(b:low<= ↑sh)(a:k<= ↑gs):(D9 low sh gs k).length=low+k:=by unfold D9;rw[kJ,lj,kW,lj];omega
theorem Rs(u:Y)(z:Int):∀j v,[(iZ z:J)][j]?=K v->(u.alloc (.cells #[iZ z] 2)).cell? ((⟨u,0,M⟩:Addr).add j)=K v:= λj v a=>by rw[Da,lY,nO _ _ _ _ _ _ (Hq u #[iZ z] 2)];simpa using a
theorem UX(e:Ax p f x=ts)(h:sh.length< ↑ts):BJ p f x sh=1:=by unfold BJ;rw[e,lS h]
theorem XP{a wr:Y}{cap:Nat}{f:Option Addr}{e:Nat}(p:wr.ownsRow a 2 1 (Z f (low+k) g) (low+k) ((D9 low sh gs k).flatMap Ah))(h:Ad a a wr)(i:D9 low sh gs (k+1)=D9 low sh gs k++[z])(n:b.ownsRow a 2 1 (sG e (low+k+1) cap) (low+k+1) ((D9 low sh gs k).flatMap Ah++[iZ z]))(l:(wr.alloc (.cells #[iZ z] 2)).grownBy b (Z f (low+k) g).ownBlock):Aa (b.ownsRow a 2 1 (sG e (low+(k+1)) cap) (low+(k+1)) ((D9 low sh gs (k+1)).flatMap Ah)/\Ad a a b):=by refine⟨?_,(h.alloc h.size _).grown l (by rw[nX];have:=h.size;omega) (λj m=>(p.lt j m).1)⟩;rw[i,lJ,<-Nat.add_assoc];simpa[Ah]using n
theorem PM{q:Prop}(h:q:=by
 clear J1 J2 K0 inst j1 j2 e0 e1 HI HF;go_wp2;go_roundw;case rel=>exact⟨j,(j:Int)-1,by omega,by go_num,by omega,HF2,HI2⟩
 simp[intOf]):q:=h
theorem PN{q:Prop}(h:q:=by
 go_wp2;go_roundw;case rel=>exact⟨k+1,K g5,cap5,by omega,rfl,by go_num,HN⟩
 simp[intOf];omega):q:=h
theorem KU(v:VP)(p:MP)(g:VF)(f:MF)(x:MI)(bg:J)(sh:List Int)(w:Y)(hs:p.small)(h3:p.a7.length=3)(bt:f.small)(bF:x.wf)(h:Cz w v p)(hf:Dt w g f)(hx:AK p f x)(aT:Rd w 1 bg sh (sh.flatMap Ah))(hl:sh.length<=1048576)(bq:∀a c,bg=Z a sh c-> ↑sh<=c)(bG:∀t∈Aw p f x,t=0->0<(Ax p f x).length)(bu:(Aw p f x).length<=2):
 Ae Tryz.prog 19 #[.agg #[v.r,v.k,v.f,v.t],.agg #[g.p,iZ f.gz,g.l,g.c],.agg #[iZ x.op,iZ x.a,iZ x.b,iZ x.c],bg] w (XA p f x sh w):=by
 obtain⟨r1,r3,k1,k3,t1,t3,f1,f3,rfl⟩:=h.sl;obtain⟨O,Q,R,S,T,g9,rfl⟩:=C5 hf;obtain⟨sa,I,rfl⟩:=aT.fu;obtain⟨i0,hi,aY,aZ,bf⟩:=lU Bt;have bR:=bq sa I rfl;clear bq;have H:=Ap (ji hs (ji h3 (ji bt (ji bF (ji h (ji hf (ji hx aT)))))));clear hs h3 bt bF h hf hx aT;have E0:=Ap (S3.of w ⟨Z r1 p.a7 r3,Z k1 p.aC k3,Z f1 p.cC f3,Z t1 p.dr t3⟩ ⟨Z O f.d5 Q,Z R f.en S,Z T f.ch g9⟩ f x.op x.a x.b x.c);go_enter Tryz.func19,Tryz.ntmps19;go_upto_region 1 with fail
 refine An (λu=>Aa (S3 w u ⟨Z r1 p.a7 r3,Z k1 p.aC k3,Z f1 p.cC f3,Z t1 p.dr t3⟩ ⟨Z O f.d5 Q,Z R f.en S,Z T f.ch g9⟩ f x.op x.a x.b x.c)) E0 ?_;rintro U0 L;clear E0;obtain⟨p0,p1,p2,p3⟩:=L.o.prog;obtain⟨q0,q1,q2,q3⟩:=L.o.func;obtain⟨x0,x1,x2,x3⟩:=L.o.ins;go_wp2_with fail;refine(TJ ⟨Z r1 p.a7 r3,Z k1 p.aC k3,Z f1 p.cC f3,Z t1 p.dr t3⟩ p ⟨Z O f.d5 Q,Z R f.en S,Z T f.ch g9⟩ f x U0 H.o.1 H.o.2.1 H.o.2.2.1 H.o.2.2.2.1 (H.o.2.2.2.2.1.bM L.o.gG lR) (H.o.2.2.2.2.2.1.bM L.o.gG lR) H.o.2.2.2.2.2.2.1).mono ?_;rintro e u1 ⟨Tv,Sv,rfl,tr,gr,b1⟩;obtain⟨ta,tc,rfl⟩:=tr.fu;obtain⟨ga,gc,rfl⟩:=gr.fu;generalize aX:Ax p f x=ts at tr gr⊢;generalize aA:Aw p f x=gs at gr⊢;rw[aX,aA]at bG;rw[aA]at bu;have aj:Aa ((∀t∈gs,t=0->0<ts.length)/\gs.length<=2/\ ↑sh<=I):=⟨bG,bu,bR⟩
 have ah:=Ap (ji aX aA);clear aX aA p0 p1 p2 p3 q0 q1 q2 q3 x0 x1 x2 x3;have E2:Aa (L6 w (u1.alloc (.cells #[Z ta ts tc,Z ga gs gc] 98)) ⟨Z r1 p.a7 r3,Z k1 p.aC k3,Z f1 p.cC f3,Z t1 p.dr t3⟩ ⟨Z O f.d5 Q,Z R f.en S,Z T f.ch g9⟩ f x u1 (Z ta ts tc) (Z ga gs gc) ts gs (Z sa sh I) sh):=by have G:=Ag u1 (.cells #[Z ta ts tc,Z ga gs gc] 98);exact⟨(L.o.bM b1).bM G,Ar.new _ _ _,tr.bM G lR,gr.bM G lR,(H.o.2.2.2.2.2.2.2.bM (Ai L.o.gG lR b1) lR).bM G lR⟩
 clear tr gr b1 L;go_upto_region 2 with fail
 generalize u1.heap.size=N at E2⊢;refine An (λu=>Aa (L6 w u ⟨Z r1 p.a7 r3,Z k1 p.aC k3,Z f1 p.cC f3,Z t1 p.dr t3⟩ ⟨Z O f.d5 Q,Z R f.en S,Z T f.ch g9⟩ f x N (Z ta ts tc) (Z ga gs gc) ts gs (Z sa sh I) sh)) E2 ?_;rintro U E3;clear E2;have e0:=E3.o.eb.cell 0;have e1:=E3.o.eb.cell 1;simp only[kL,jt,kI]at e0 e1;have bp:=Ap E3.o.gV.gG;by_cases aQ:sh.length< ↑ts
 . have br:(sh:Int)<(ts:Int):=oM;have C:=Ap (UX ah.o.1 aQ);clear aQ;go_wp2_with fail;exact kY (v:=.tuple #[sN,iZ 1]) (by simp[results,Tryz.results19,go_sem]) rfl ⟨sN,by rw[C.o], λe=>by rw[C.o]at e;exact absurd e dC,bp.o⟩
 obtain⟨low,bB⟩:∃low:Nat, ↑sh=low+ts.length:=⟨sh.length-↑ts,oM⟩
 have aw:Aa (Hf p f x sh=low):=by show ↑sh-(Ax p f x).length=low;rw[ah.o.1];omega
 have br:¬(sh:Int)<(ts:Int):=oM;have A:=Ap bB;clear bB;go_upto_region 6 with fail
 rw[show(sh:Int)-(ts:Int)=(low:Int)by have:=A.o;omega];have cj:wrap64 ((ts:Int)-1)=(ts:Int)-1:=IntWalk.wrap64_in _ (by have:=A.o;omega);clear aQ br e0 e1;go_wp2;rw[cj];go_loopw [13] (λi wr=>∃(q:Nat) (z:Int),q<= ↑ts/\i=iZ z/\z+1=q/\Aa (∀(k:Nat) s t,q<=k->(sh.drop low)[k]?=K s->ts[k]?=K t->t=0\/s=t)/\Aa (L6 w wr ⟨Z r1 p.a7 r3,Z k1 p.aC k3,Z f1 p.cC f3,Z t1 p.dr t3⟩ ⟨Z O f.d5 Q,Z R f.en S,Z T f.ch g9⟩ f x N (Z ta ts tc) (Z ga gs gc) ts gs (Z sa sh I) sh)) (λi _=>(intOf i+1).toNat)
 case atStart=>exact⟨ts,(ts:Int)-1,oM,rfl,oM, λk s t hk _ ht=>absurd (iV.1 ht).1 oM,E3⟩
 clear E3 bp;obtain⟨q,z,hq,rfl,hz,HF,HI⟩:=hrel;have aD:=A.o;have e0:=HI.o.eb.cell 0;have e1:=HI.o.eb.cell 1;simp only[kL,jt,kI]at e0 e1;by_cases bZ:q=0
 . obtain rfl:z=-1:=oM;have bI:=Ap ((Ht (by rw[mO];omega)).2 (λk s t h1 h2=>HF.o k s t oM h1 h2));clear HF bZ hz hq aD;obtain⟨q0,q1,q2,q3⟩:=HI.o.gV.func;obtain⟨x0,x1,x2,x3⟩:=HI.o.gV.ins;(go_upto_region 11 with fail);go_cut [67] (λs wx=>∃bb:Bool,s=.bool bb/\Aa (bb=true↔(x.op=27/\Ay f x.a≠3))/\Aa (L6 w wx ⟨Z r1 p.a7 r3,Z k1 p.aC k3,Z f1 p.cC f3,Z t1 p.dr t3⟩ ⟨Z O f.d5 Q,Z R f.en S,Z T f.ch g9⟩ f x N (Z ta ts tc) (Z ga gs gc) ts gs (Z sa sh I) sh))
   case first=>
    by_cases am:x.op=27
    . (have bO:(x.op==27)=true:=by simpa using am);have aF:=Ap am;clear am;go_wp2_with fail;refine(Ek ⟨Z O f.d5 Q,Z R f.en S,Z T f.ch g9⟩ f x.a wr H.o.2.2.1 H.o.2.2.2.1.2.1 (H.o.2.2.2.2.2.1.bM HI.o.gV.gG lR)).mono ?_;rintro e u1 ⟨rfl,b1⟩;by_cases aq:Ay f x.a=3
      . (have bS:(Ay f x.a != 3)=false:=by simpa using aq);have aH:=Ap aq;go_wp2_with fail;go_meet;exact⟨false,rfl,⟨λe=>(by cases e), λe=>absurd aH.o e.2⟩,HI.o.bM b1⟩
      (have bS:(Ay f x.a != 3)=true:=by simpa using aq);have aH:=Ap aq;clear aq;go_wp2_with fail;go_meet;exact⟨true,rfl,⟨λ_=>⟨aF.o,aH.o⟩, λ_=>rfl⟩,HI.o.bM b1⟩
    (have bO:(x.op==27)=false:=by simpa using am);have aF:=Ap am;clear am;go_wp2_with fail;go_meet;exact⟨false,rfl,⟨λe=>(by cases e), λe=>absurd e.1 aF.o⟩,HI⟩
   case rest=>
    obtain⟨bb,rfl,bi,au⟩:=hcut;clear HI q0 q1 q2 q3 x0 x1 x2 x3 e0 e1;rcases Bool.eq_false_or_eq_true bb with aM|aM
    . subst aM;(have C:Aa (BJ p f x sh=2):=by show BJ p f x sh=2;unfold BJ;rw[ah.o.1,lE (by have:=A.o;omega),lS (.inr (bi.o.1 rfl))]);go_wp2_with fail;exact kY (v:=.tuple #[sN,iZ 2]) (by simp[results,Tryz.results19,go_sem]) rfl ⟨sN,by rw[C.o], λe=>by rw[C.o]at e;exact absurd e dC,au.o.gV.gG⟩
    subst aM;have bK:Aa (¬(x.op=27/\Ay f x.a≠3)):= λe=>by have:=bi.o.2 e;cases this
    obtain⟨y,hN⟩:∃W,W=wc:=⟨_,rfl⟩;subst hN;have aD:=A.o;have bQ:(low:Int)<=(I:Int):=oM;have bT:low<=I:=oM;clear aD;(go_upto_region 13 with fail);go_cut [12,14] (λl s wx=>∃(a:Option Addr) (c:Nat),l=iZ (low:Int)/\s=Z a low c/\Aa (wx.ownsRow y 2 1 (Z a low c) low ((sh.take low).flatMap Ah)/\Ad y y wx))
    case first=>
     have G:=Ag y (.cells #[] 2);have HO:Aa ((y.alloc (.cells #[] 2)).ownsRow y 2 1 (sG y 0 0) 0 []):=⟨rfl,.inr ⟨y,0,#[],rfl,Nat.le_refl _,Hq _ _ _,Nat.le_refl _,mu _,rfl,rfl⟩⟩;have bJ:Aa _:=au.o.bM G;cases sa with
     | none=>
       have cu:sh.length=0:=by
        rcases au.o.sr.2 with⟨e,_⟩|⟨gg,oo,cc,e,hc⟩
        . exact e
        simp at e
       (obtain rfl:low=0:=by have:=A.o;omega);clear cu bQ bT;go_wp2_with fail;go_meet;exact⟨K y,0,rfl,rfl,HO.o,G⟩
     | some ad=>
       have HN:Aa (∀j u,((sh.take low).flatMap Ah)[j]?=K u->(y.alloc (.cells #[] 2)).cell? (ad.add j)=K u):= λj u hj=>by
        rcases bJ.o.sr.2 with⟨e,_⟩|⟨gg,oo,cc,e,hc⟩
        . (have cG:(sh.flatMap Ah).length=0:=by rw[Au Ah 1 Ao,e]);have:=(iV.1 (Mm hj)).1;omega
        simp only[jc,kK]at e;obtain⟨rfl,_,_⟩:=e;rw[Da];exact hc j u (Mm hj)
       (have HL:Aa (((sh.take low).flatMap Ah).length=low*1):=by show _=_;rw[Au Ah 1 Ao,lj];have:=A.o;omega);go_wp2_with (at_builtin;refine wpList_append_own _ rfl _ _ 36 rfl y 2 i0 (iZ 0) 1 8 Tryz.underlying36 hi aY aZ bf rfl dC _ 0 [] rfl HO.o ad low I ((sh.take low).flatMap Ah) rfl HL.o HN.o ?c1 ?c2 ?c3 ?c4 ?_);(case c1=>intro u hu;obtain⟨z,_,hz⟩:=mN.1 hu;simp[Ah]at hz;subst hz;rfl);(case c2=>have:=A.o;unfold maxLen;omega);(case c3=>have:=A.o;omega);(case c4=>exact G.size);intro v' w' aS bz bX;(obtain⟨a2,c2,rfl⟩:∃a c,v'=Z a low c:=by have:=(Rd.gM aS).fu;simpa using this);have HB:=Ap (ji (G.grown bz sP (λk hk=>by simp[Value.ownBlock]at hk;omega)) ((by simpa using aS):w'.ownsRow y 2 1 (Z a2 low c2) low ((sh.take low).flatMap Ah)));clear aS bz bX;go_wp2_with fail;go_meet;exact⟨a2,c2,rfl,rfl,HB.o.2,HB.o.1⟩
    case rest=>
     obtain⟨oa,oc,rfl,rfl,aI⟩:=hcut;have HW:Aa _:=au.o;go_wp2;go_loopw [14,15,16] (λo i _ wr=>∃(k:Nat) (a:Option Addr) (c:Nat),k<= ↑gs/\o=Z a (low+k) c/\i=iZ (k:Int)/\Aa (wr.ownsRow y 2 1 (Z a (low+k) c) (low+k) ((D9 low sh gs k).flatMap Ah)/\Ad y y wr)) (λ_ i _ _=> ↑gs-(intOf i).toNat)
     (case atStart=>exact⟨0,oa,oc,oM,rfl,rfl,by have D:=aI.o.1;simpa[D9]using D,aI.o.2⟩);clear aI;clear oa oc;obtain⟨k,oa,oc,hk,rfl,rfl,HI⟩:=hrel;have ao:Aa _:=HW.o.bM HI.o.2;have e1:=ao.o.eb.cell 1;simp only[kL,jt,kI]at e1;by_cases bV:k< ↑gs
     . obtain⟨B,F⟩:∃t,gs[k]?=K t:=⟨_,an bV⟩;obtain⟨gg,og,rfl,j1⟩:=Ld ao.o.gr rfl F;have cE:(k:Int)<(gs:Int):=oM;have cA:=aj.o.2.1;by_cases a8:B=0
       . subst a8;have bY:=aj.o.1 0 (i8 F) rfl;obtain⟨sl,aU⟩:∃s,sh[low]?=K s:=⟨_,an (by have:=A.o;omega)⟩;obtain⟨bL,os,rfl,j2⟩:=Ld ao.o.sr rfl aU;(have ce:(low:Int)<(sh:Int):=by have:=A.o;omega);(have aG:Aa (D9 low sh gs (k+1)=D9 low sh gs k++[sl]):=by show D9 low sh gs (k+1)=_;rw[MG F];simp[Yk,aU]);clear F aU bY;have ae:Aa ((wr.alloc (.cells #[iZ sl] 2)).ownsRow y 2 1 (Z oa (low+k) oc) (low+k) ((D9 low sh gs k).flatMap Ah)/\ ↑y<=(wr.alloc (.cells #[iZ sl] 2)).heap.size):=⟨Am HI.o.1 (Ag _ _) lR,by rw[nX];have:=HI.o.2.size;omega⟩
         go_wp2_with (at_builtin;refine wpList_append_lies _ rfl _ _ 36 rfl y 2 i0 (iZ 0) 1 8 Tryz.underlying36 hi aY aZ bf rfl dC _ (low+k) ((D9 low sh gs k).flatMap Ah) rfl ae.o.1 wr 1 1 [iZ sl] rfl rfl (Rs wr sl) (λu hu=>by simp at hu;subst hu;rfl) oM (by have:=A.o;have:=aj.o.2.1;simp[maxLen];omega) (by have:=A.o;have:=aj.o.2.1;omega) ae.o.2 _ rfl ?_;intro g5 cap5 w5 hown hgrow hat aR;have HN:Aa (w5.ownsRow y 2 1 (sG g5 (low+(k+1)) cap5) (low+(k+1)) ((D9 low sh gs (k+1)).flatMap Ah)/\Ad y y w5):=XP HI.o.1 HI.o.2 aG.o hown hgrow;clear hown hgrow hat aR)
         exact PN
       (have aG:Aa (D9 low sh gs (k+1)=D9 low sh gs k++[B]):=by show D9 low sh gs (k+1)=_;rw[MG F];simp[Yk,a8]);(have bC:(B==0)=false:=by simpa using a8);clear F;have ae:Aa ((wr.alloc (.cells #[iZ B] 2)).ownsRow y 2 1 (Z oa (low+k) oc) (low+k) ((D9 low sh gs k).flatMap Ah)/\ ↑y<=(wr.alloc (.cells #[iZ B] 2)).heap.size):=⟨Am HI.o.1 (Ag _ _) lR,by rw[nX];have:=HI.o.2.size;omega⟩
       go_wp2_with (at_builtin;refine wpList_append_lies _ rfl _ _ 36 rfl y 2 i0 (iZ 0) 1 8 Tryz.underlying36 hi aY aZ bf rfl dC _ (low+k) ((D9 low sh gs k).flatMap Ah) rfl ae.o.1 wr 1 1 [iZ B] rfl rfl (Rs wr B) (λu hu=>by simp at hu;subst hu;rfl) oM (by have:=A.o;have:=aj.o.2.1;simp[maxLen];omega) (by have:=A.o;have:=aj.o.2.1;omega) ae.o.2 _ rfl ?_;intro g5 cap5 w5 hown hgrow hat aR;have HN:Aa (w5.ownsRow y 2 1 (sG g5 (low+(k+1)) cap5) (low+(k+1)) ((D9 low sh gs (k+1)).flatMap Ah)/\Ad y y w5):=XP HI.o.1 HI.o.2 aG.o hown hgrow;clear hown hgrow hat aR)
       clear ae HI;exact PN
     obtain rfl:k=gs.length:=oM;have aJ:Aa ((BT p f x sh).length=low+ ↑gs/\D9 low sh gs gs=BT p f x sh):=by have D:=T0 aw.o ah.o.2;exact⟨by rw[<-D,OZ (by have:=A.o;omega) lR],D⟩
     have bj:Aa (BJ p f x sh=if 64<low+ ↑gs then 3 else 0):=by show BJ p f x sh=_;unfold BJ;rw[ah.o.1,lE (by have:=A.o;omega),lE (by rw[aw.o];rintro(e|e);exact absurd (bI.o.symm.trans e) dC;exact bK.o e),aJ.o.1]
     by_cases aP:64<low+ ↑gs
     . (have C:Aa (BJ p f x sh=3):=by have:=bj.o;rw[lS aP]at this;exact this);have bP:(64:Int)<(low:Int)+(gs:Int):=oM;clear aP;go_wp2_with fail;exact kY (v:=.tuple #[sN,iZ 3]) (by simp[results,Tryz.results19,go_sem]) rfl ⟨sN,by rw[C.o], λe=>by rw[C.o]at e;exact absurd e dC,ao.o.gV.gG⟩
     (have C:Aa (BJ p f x sh=0):=by have:=bj.o;rw[lE aP]at this;exact this);have bP:¬(64:Int)<(low:Int)+(gs:Int):=oM;go_wp2_with fail;exact kY (v:=.tuple #[Z oa (low+ ↑gs) oc,iZ 0]) (by simp[results,Tryz.results19,go_sem]) rfl ⟨Z oa (low+ ↑gs) oc,by rw[C.o], λ_=>by rw[aJ.o.1,<-aJ.o.2];exact Bb HI.o.1 HW.o.gV.gG.size,ao.o.gV.gG⟩
 obtain⟨j,rfl⟩:∃j,q=j+1:=⟨q-1,oM⟩;obtain rfl:z=(j:Int):=oM;obtain⟨B,F⟩:∃t,ts[j]?=K t:=⟨_,an oM⟩;obtain⟨sv,aW⟩:∃s,sh[low+j]?=K s:=⟨_,an oM⟩;obtain⟨gt,ot,rfl,j1⟩:=Ld HI.o.tr rfl F;obtain⟨bL,os,rfl,j2⟩:=Ld HI.o.sr rfl aW;have hd:(sh.drop low)[j]?=K sv:=by rw[ny];exact aW
 have HV:=Ap (ji F hd);have cD:(j:Int)<(ts:Int):=oM;have ce:(low:Int)+(j:Int)<(sh:Int):=oM;clear F aW hd aD;have inst:=Av.some wr;have J1:= λn:Av wr=>Av.cell j1 n
 have J2:= λn:Av wr=>Av.cell j2 n
 have K0:= λn:Av wr=>Av.cell e0 n
 by_cases a8:B=0
 . (have bC:(B != 0)=false:=by simpa using a8);go_wp2_with fail;refine AL kR kR ?_;(repeat(go_big_quiet_step (fail)));refine wpQuiet_nil ?_;rintro bH ⟨n',rfl⟩;have HI2:Aa _:=HI.o.bM n'.h;have HF2:Aa (∀(k:Nat) s t,j<=k->(sh.drop low)[k]?=K s->ts[k]?=K t->t=0\/s=t):= λk s t hk h1 h2=>by
    by_cases e:k=j
    . subst e;rw[HV.o.1]at h2;exact .inl (by rw[<-kN h2];exact a8)
    exact HF.o k s t oM h1 h2
   exact PM
 have bC:(B != 0)=true:=by simpa using a8
 by_cases aE:sv=B
 . (have cg:(sv != B)=false:=by simpa using aE);go_wp2_with fail;refine AL kR kR ?_;(repeat(go_big_quiet_step (fail)));refine wpQuiet_nil ?_;rintro bH ⟨n',rfl⟩;have HI2:Aa _:=HI.o.bM n'.h;have HF2:Aa (∀(k:Nat) s t,j<=k->(sh.drop low)[k]?=K s->ts[k]?=K t->t=0\/s=t):= λk s t hk h1 h2=>by
    by_cases e:k=j
    . subst e;rw[HV.o.1]at h2;rw[HV.o.2]at h1;exact .inr (by rw[<-kN h1,<-kN h2];exact aE)
    exact HF.o k s t oM h1 h2
   exact PM
 have cg:(sv != B)=true:=by simpa using aE
 have C:Aa (BJ p f x sh=2):=by
  show BJ p f x sh=2;unfold BJ;rw[ah.o.1,lE (by have:=A.o;omega),lS (.inl (Bool.eq_false_iff.2 (λe=>by
   have D:=(Ht (by rw[mO,aw.o];have:=A.o;omega)).1 e j sv B (by rw[aw.o];exact HV.o.2) HV.o.1;rcases D with D|D
   . exact a8 D
   exact aE D)))]
 go_wp2_with fail;refine AL kR kR ?_;repeat(go_big_quiet_step (fail))
 refine wpQuiet_nil ?_;rintro bH ⟨n',rfl⟩;have HI2:=HI.o.bM n'.h;go_wp2_with fail;exact kY (v:=.tuple #[sN,iZ 2]) (by simp[results,Tryz.results19,go_sem]) rfl ⟨sN,by rw[C.o], λe=>by rw[C.o]at e;exact absurd e dC,HI2.gV.gG⟩
end Go.Proofs.YtjnglocdoljgkaaGreat
