import Derived.Test.YtkgohaigebcgoaaGreatDoorLo24
import Derived.Deep.CutBlock
namespace Go.Proofs.YtkgohaigebcgoaaGreatDoor
open Go.ChangeShapes Go.WideShapes Go.ChangeAt Go.RowKit Go.Proofs.Tryz
set_option linter.unusedVariables false
open Go.Value renaming slice → Z,agg → An,bool → Ao
open Option renaming some → K,none → M
open Go renaming Value → J,World → Y,TypeId → Aj,Calls → Ai
open List renaming flatMap → Ad
open Go.Obj renaming cells → Ak
open Go.World renaming alloc → Ac,ownsRow → Ab,setCell → Aa
open Go.RowKit renaming Below → Ah,Hid → Ae
open Go.Ending renaming returned → Am
open Go.Proofs.Tryz renaming prog → Aq
open Go.IntKind renaming i64 → Af
set_option maxHeartbeats 8000000
set_option maxRecDepth 100000
variable {p:MP}{f:MF}{c a a0 d e V:J}{ys:List (ML×J×J)}{s:WI}{b S j base:Nat}{t:Aj}{v:VP}{g:VF}{x:MI}{R:Nat->Prop}{xs:List Int}
theorem T5:∀{c a:Nat} {b:List Int} {T:Nat->List Int} {D:Nat} {e:Int×Nat},DV p f c a b T D=.inl e->e.1≠0
 |0,_,_,_,_,_,h=>by cases h
 | c+1,a,b,T,D,e,h=>by
   unfold DV at h;split at h
   . cases h
   split at h
   . exact T5 h
   rename_i d;(cases h);exact d
theorem T6{c:List MB}:∀{l:List Nat} {s:WS} {e:Int×Nat},Ib p f c l s=.inl e->e.1≠0
 |[],_,_,h=>by cases h
 | b ::r,s,e,h=>by
   unfold Ib at h;split at h
   . cases h
   split at h
   . rename_i m _ g a;(cases h);unfold RH at a;split at a
     . rename_i d;(cases a);exact T5 d
     split at a
     . (cases a);simp
     cases a
   exact T6 h
theorem JX.len{q:Nat}{y:Qh}(h:JX p (q:Int) y)(a:y.aU=0)(c:p.aB[q]?=K f):y.dT.length=f.aU.length:=by
 rcases h with⟨_,e⟩|⟨_,_,d,r,b,_,_,e⟩
 . subst e;cases a
 rw[i9,c]at b;obtain rfl:=jM b;subst e;revert a;cases hr:Ib p f r.aC (r.dr.map Int.toNat) NM with
 |inl e=>intro a;exact absurd a (T6 hr)
 |inr s=>intro _;simp[PL]
def qf(u:Y)(s:J)(rs:List (List Int)):Prop:=∃xs:List J,Rd u 1 s rs xs/\∀(k:Nat) x,xs[k]?=K x->∃(r:List Int) (a:Option Addr) (c:Nat),rs[k]?=K r/\x=Z a r c
theorem o5{ys:List (List Int×J)}:Ad Ia ys=ys.map Prod.snd:=by
 induction ys with
 |nil=>rfl
 |cons y r a=>rw[ke,a];rfl
theorem qf.of{u:Y}{s:J}{rs:List (List Int)}(h:OT u s rs):qf u s rs:=by obtain⟨xs,f,g,i⟩:=h;refine⟨_,g, λk x b=> ?_⟩;rw[o5,jY,lE]at b;obtain⟨y,d,rfl⟩:=b;obtain⟨a,c,e⟩:=(i y (hC d)).aP;exact⟨y.1,a,c,by rw[<-f,jY,d];rfl,e⟩
theorem px{u:Y}{a:Option Addr}{c:Nat}{rs:List (List Int)}(h:qf u (Z a rs c) rs){k:Nat}(p:k< ↑rs):∃(g o:Nat) (b:Option Addr) (r:List Int) (c1:Nat),a=K ⟨g,o,M⟩/\rs[k]?=K r/\u ⟨g,o+k,M⟩=K (Z b r c1):=by
 obtain⟨xs,d,l⟩:=h;have q:=d.1;obtain⟨x,f⟩:∃x,xs[k]?=K x:=⟨_,an oM⟩;obtain⟨r,b,c1,i,j⟩:=l k x f;rcases d.2 with⟨n,_⟩|⟨g,o,c',e,m⟩
 . omega
 simp only[i8]at e;exact⟨g,o,b,r,c1,e.1,i,by rw[m k x f,j]⟩
theorem GT(w:Y)(cs:List J)(t:Aj):∀j u,cs[j]?=K u->(Ac w (Ak cs.toArray t)) ((⟨w,0,M⟩:Addr).add j)=K u:= λj u a=>by rw[Cx,kT,(Ay.new w cs.toArray t).cell j];simpa using a
section
variable {w u0 u u':Y} {X gc cc gd cd n:Nat} {C D:List Int}
end
theorem Ng{w:Y}(h:Ay w b #[a0,a,c,d,e] t):w b=K a0/\w ⟨b,1,M⟩=K a/\w ⟨b,2,M⟩=K c/\w ⟨b,3,M⟩=K d/\w ⟨b,4,M⟩=K e:=⟨h.cell 0,h.cell 1,h.cell 2,h.cell 3,h.cell 4⟩
theorem Xv{w:Y}{a:Array J}(h:Ay w b a t):w.frozen? b=false/\w.frozen? ⟨b,1,M⟩=false/\w.frozen? ⟨b,2,M⟩=false/\w.frozen? ⟨b,3,M⟩=false/\w.frozen? ⟨b,4,M⟩=false:=⟨h.frozen 0,h.frozen 1,h.frozen 2,h.frozen 3,h.frozen 4⟩
theorem Ot(fs:List MF):∀(n:Nat) (done:List Int),(∀z∈done,∃q:Nat,z=(q:Int)/\q< ↑fs)->(∀z∈Db fs n done,∃q:Nat,z=(q:Int)/\q< ↑fs)/\(Db fs n done).length<= ↑done+n:=by
 intro n;induction n with
 |zero=>intro done h;exact⟨h,Nat.le_refl _⟩
 | succ n g=>
   intro done h;unfold Db;split
   . rename_i i d;(have f:i<fs.length:=by have:=List.mem_of_find?_eq_some d;simpa using this);obtain⟨b,c⟩:=g (done++[(i:Int)]) λz a=>by
      rcases jL.1 a with e|e
      . exact h z e
      exact⟨i,jU.1 e,f⟩
     refine⟨b,?_⟩;rw[jI,kE]at c;omega
   exact⟨λz a=>(by cases a),sP⟩
section
variable {w u u':Y} {X OB kc kd:Nat} {P4:Array J} {vC vD:J} {C D:List Int}
end
section
variable {w u u':Y} {X OB gc cc gd cd n TB:Nat} {P4:Array J} {C D C' D':List Int}
end
def Eh(S:Nat)(V:J)(j:Nat):Prop:=j=S\/V.ownBlock=K j
def ChT(w:Y)(S:Nat)(V:J)(c:Int)(d:List Int)(b:Y):Prop:=DX (Eh S V) w b/\(c=0->∃a,Fj b S a d/\(a.ownBlock=V.ownBlock\/∀g,a.ownBlock=K g-> ↑w<=g))
structure JR(w u:Y)(v:VP)(g:VF)(f:MF)(x:MI)(S:Nat)(V:J):Prop where
 sb:Ay u w #[v.r,v.k,v.f,v.t,g.p,f.cu,g.l,g.c] 109
 ib:Ay u ((w:Nat)+1) #[x.op,x.a,x.b,x.c] 25
 eX:DX (Eh S V) w u
theorem JR.step{w u c:Y}(h:JR w u v g f x S V)(a:DX R u c)(d:∀k,R k->k< ↑w->Eh S V k)(b:∀k,R k->k= ↑w\/k= ↑w+1->False):JR w c v g f x S V:=⟨a.eP h.sb (λe=>b _ e (.inl rfl)),a.eP h.ib (λe=>b _ e (.inr rfl)),h.eX.trans a (λk i e=>d k e i)⟩
theorem JR.av{w u b:Y}(h:JR w u v g f x S V)(a:Ah u u b):JR w b v g f x S V:=⟨h.sb.av a,h.ib.av a,h.eX.on a⟩
theorem Eh.ge{w:Y}(h:Fj w S V xs)(a:Eh S V j):S<=j/\j<w.heap.size:=by
 rcases a with rfl|a
 . exact⟨Nat.le_refl _,h.eP.lt⟩
 have:=h.lt j a;omega
theorem VG{a:List Int}(h:∀t∈Bh p f x,t=0->x.op=23)(b:x.op≠23):H8 p f x a=a.take (GX p f x a)++Bh p f x:=by
 unfold H8;congr 1
 rw[mG (g:=id) (λt ht=>by
  have:t≠0:= λe=>b (h t ht e)
  simp[this])]
 simp
theorem OH(h:x.op=23):AA p f x=[0]:=by unfold AA;rw[jH oM,jH oM,jH oM,jH oM,jH oM,jH oM,jH oM,jH oM,jP oM]
theorem UR(h:x.op=23):Bh p f x=[0,0]:=by unfold Bh;rw[jH oM,jH oM,jH oM,jH oM,jH oM,jH oM,jH oM,jH oM,jP h]
theorem ZS{a:List Int}(h:x.op=23)(g:1<=a.length):H8 p f x a=a.take (a.length-1)++(a.drop (a.length-1)++a.drop (a.length-1)):=by
 have e:GX p f x a= ↑a-1:=by unfold GX;rw[OH h];rfl
 unfold H8;rw[e,UR h];congr 1
 obtain⟨y,b⟩:∃y,a[a.length-1]?=K y:=⟨_,an oM⟩;have c:a.drop (a.length-1)=[y]:=by
  obtain⟨d,rfl⟩:=f7.1 b;rw[lV d];congr 1
  exact List.drop_eq_nil_of_le oM
 rw[c,b];rfl
theorem Kh(h:x.op≠29):Ce p f x=AA p f x:=by unfold Ce;rw[jH h]
theorem OG(h:x.op=29):Ce p f x=Bj f:=by unfold Ce;rw[jP h]
theorem US(h:x.op=29):Bh p f x=[]:=by unfold Bh;rw[jH oM,jH oM,jH oM,jH oM,jH oM,jH oM,jH oM,jH oM,jH oM,jH oM]
theorem UP(l:List Int):CZ l l=true:=by
 induction l with
 |nil=>rfl
 |cons a r b=>simp[CZ,b]
theorem Uy{a:List Int}(h: ↑a<(AA p f x).length):EL p f x a=1:=by unfold EL;rw[jP h]
theorem Jm{b:List Int}(h:(AA p f x).length<= ↑b)(c:CZ (b.drop (GX p f x b)) (AA p f x)=false\/(x.op=27/\AJ f x.a≠3)):EL p f x b=2:=by unfold EL;rw[jH oM,jP c]
theorem Sz{b:List Int}(h:(AA p f x).length<= ↑b)(c:CZ (b.drop (GX p f x b)) (AA p f x)=true)(d:¬(x.op=27/\AJ f x.a≠3))(g:64<(H8 p f x b).length):EL p f x b=3:=by unfold EL;rw[jH oM,jH (λe=>e.elim (λe=>by rw[c]at e;cases e) d),jP g]
theorem Sy{b:List Int}(h:(AA p f x).length<= ↑b)(c:CZ (b.drop (GX p f x b)) (AA p f x)=true)(d:¬(x.op=27/\AJ f x.a≠3))(g:¬64<(H8 p f x b).length):EL p f x b=0:=by unfold EL;rw[jH oM,jH (λe=>e.elim (λe=>by rw[c]at e;cases e) d),jH g]
theorem LK{w:Y}{f g i:J}(h:Ay w b #[a0,a,c,d,e,f,g,i] t):w b=K a0/\w ⟨b,1,M⟩=K a/\w ⟨b,2,M⟩=K c/\w ⟨b,3,M⟩=K d/\w ⟨b,4,M⟩=K e/\w ⟨b,5,M⟩=K f/\w ⟨b,6,M⟩=K g/\w ⟨b,7,M⟩=K i:=⟨h.cell 0,h.cell 1,h.cell 2,h.cell 3,h.cell 4,h.cell 5,h.cell 6,h.cell 7⟩
theorem PJ(c:p.small)(d:AW p f x):(Ce p f x).length<=1048576:=by
 unfold Ce;split
 . unfold Bj;split<;>simp
 unfold AA;by_cases h:x.op=28
 . obtain⟨q,fq,b,a⟩:=d.callee h;rw[jH oM,jH oM,jH oM,jH oM,jH oM,jH oM,jH oM,jH oM,jH oM,jH oM,jP h,b,i9,a];exact(c.func fq (hC a)).1
 repeat' split
 all_goals first|contradiction|simp
theorem Sq (v:VP)(p:MP)(g:VF)(f:MF)(x:MI)(S:Nat)(V:J)(d:List Int)(w0 w:Y)(bB:p.small)(bx:AX p 0)(hs:f.small)(hP:ET w0 v p)(hr:FH w0 g f)(hx:AW p f x)(bJ: ↑w0<=S)(hb:Ah w0 w0 w)(aW:Fj w S V d)(hl:d.length<=1048576):
 Ai Aq 247 #[An #[v.r,v.k,v.f,v.t,g.p,f.cu,g.l,g.c],.pointer S,An #[x.op,x.a,x.b,x.c]] w λe w'=>e=Am (BJ p f x d)/\ChT w S V (BJ p f x d) (Dr p f x d) w':=by
 obtain⟨G,I,E,F,L,N,f1,f3,rfl⟩:=hP.sl;obtain⟨y,z,A,B,C,D,rfl⟩:=I8 hr;have H:=Aw (fd bB (fd bx (fd hs (fd hP (fd hr (fd hx (fd bJ (fd hb (fd aW hl)))))))));have E0:Ae (JR w (Ac (Ac w (Ak #[Z G p.az I,Z E p.b8 F,Z f1 p.aB f3,Z L p.bO N,Z y f.aD z,f.cu,Z A f.a7 B,Z C f.aU D] 109)) (Ak #[x.op,x.a,x.b,x.c] 25)) ⟨Z G p.az I,Z E p.b8 F,Z f1 p.aB f3,Z L p.bO N⟩ ⟨Z y f.aD z,Z A f.a7 B,Z C f.aU D⟩ f x S V/\Fj (Ac (Ac w (Ak #[Z G p.az I,Z E p.b8 F,Z f1 p.aB f3,Z L p.bO N,Z y f.aD z,f.cu,Z A f.a7 B,Z C f.aU D] 109)) (Ak #[x.op,x.a,x.b,x.c] 25)) S V d):=by have h2:=Iu.of w ⟨Z G p.az I,Z E p.b8 F,Z f1 p.aB f3,Z L p.bO N⟩ ⟨Z y f.aD z,Z A f.a7 B,Z C f.aU D⟩ f x.op x.a x.b x.c;exact⟨⟨h2.sb,h2.ib,DX.of h2.cq⟩,aW.av h2.cq⟩
 clear bB bx hs hP hr hx bJ hb aW hl;generalize p.az.length=nr at H E0⊢;generalize p.b8.length=nk at H E0⊢;generalize p.aB.length=nf at H E0⊢;generalize p.bO.length=nt at H E0⊢;generalize f.aD.length=np at H E0⊢;generalize f.a7.length=nl at H E0⊢;generalize f.aU.length=nc at H E0⊢;go_enter func247,ntmps247;go_upto_region 1 with fail
 refine Av (λu=>Ae (JR w u ⟨Z G nr I,Z E nk F,Z f1 nf f3,Z L nt N⟩ ⟨Z y np z,Z A nl B,Z C nc D⟩ f x S V/\Fj u S V d)) E0 ?_
 rintro U E1;clear E0;have au:Ae (∀u,DX (Eh S V) w u->Ah w0 w0 u):= λu hu=>H.2.2.2.2.2.2.2.1.trans (hu.below H.2.2.2.2.2.2.2.1.size (λj hj e=>by have:=(Eh.ge H.2.2.2.2.2.2.2.2.1 e).1;have:=H.2.2.2.2.2.2.1;omega))
 obtain⟨s0,s1,s2,s3,s4,s5,s6,s7⟩:=LK E1.1.sb;obtain⟨i0,i1,i2,i3⟩:=CP E1.1.ib;go_wp2_with fail;refine(OI ⟨Z G nr I,Z E nk F,Z f1 nf f3,Z L nt N⟩ p ⟨Z y np z,Z A nl B,Z C nc D⟩ f x U H.1 H.2.1.parts.1.1 H.2.2.1 (H.2.2.2.1.av (au.o U E1.1.eX) lR) (H.2.2.2.2.1.av (au.o U E1.1.eX) lR) H.2.2.2.2.2.1).mono ?_;rintro e u1 ⟨st,rfl,aq,b1⟩;obtain⟨ta,tc,rfl⟩:=aq.aP;have aG:=Aw (PJ H.1 H.2.2.2.2.2.1);have R:=Aw (fd (E1.1.av b1) (fd (E1.2.av b1) aq));clear aq b1 E1 s0 s1 s2 s3 s4 s5 s6 s7 i0 i1 i2 i3;clear U;generalize bH:Ce p f x=h at aG R⊢;have aF:=Aw bH;clear bH;obtain⟨i0,i1,i2,i3⟩:=CP R.1.ib;go_upto_region 2 with fail
 go_cut [22] (λs wx=>∃bb:Bool,s=Ao bb/\Ae (bb=true↔(x.op=29/\d≠h))/\Ae (JR w wx ⟨Z G nr I,Z E nk F,Z f1 nf f3,Z L nt N⟩ ⟨Z y np z,Z A nl B,Z C nc D⟩ f x S V/\Fj wx S V d/\Rd wx 1 (Z ta h tc) h (Ad As h)))
 case first=>
  by_cases n:x.op=29
  . (have bV:(x.op==29)=true:=by simpa using n);have aQ:=Aw n;clear n;go_wp2_with fail;refine(Mh S V (Z ta h tc) d h u1 R.2.1 R.2.2 H.2.2.2.2.2.2.2.2.2 aG).mono ?_;rintro e u2 ⟨⟨b2,rfl,bf⟩,aJ⟩;have q:=Aw (fd (R.1.av aJ) (fd (R.2.1.av aJ) (R.2.2.av aJ lR)));have aX:=Aw bf;clear bf aJ R i0 i1 i2 i3;cases b2
    . go_wp2_with fail;go_meet;exact⟨true,rfl,⟨λ_=>⟨aQ, λe=>(by have:=aX.2 e;cases this)⟩, λ_=>rfl⟩,q⟩
    go_wp2_with fail;go_meet;exact⟨false,rfl,⟨λe=>(by cases e), λe=>absurd (aX.1 (by first|rfl|trivial)) e.2⟩,q⟩
  have bV:(x.op==29)=false:=by simpa using n
  have aQ:=Aw n;clear n;go_wp2_with fail;go_meet;exact⟨false,rfl,⟨λe=>(by cases e), λe=>absurd e.1 aQ.o⟩,R⟩
 case rest =>
  obtain⟨bb,rfl,aS,q⟩:=hcut;clear R i0 i1 i2 i3;obtain⟨W2,ce⟩:∃W,W=wc:=⟨_,rfl⟩;subst ce;cases bb
  case true=>(have m:Ae (BJ p f x d=5):=by have h1:=aS.1 rfl;show BJ p f x d=5;unfold BJ;rw[jP h1.1,jH (λe=>h1.2 (by rw[<-aF,OG h1.1];exact e))]);go_wp2_with fail;go_ret;exact⟨by rw[m];rfl,q.1.eX, λe=>absurd (m.symm.trans e) dC⟩
  case false =>
   (have HB:Ae (x.op=29->d=h):= λe=>kV λe2=>by have:=aS.2 ⟨e,e2⟩;cases this);clear aS;go_wp2_with fail;refine(Yf S V (Z ta h tc) d h W2 q.2.1 q.2.2 H.2.2.2.2.2.2.2.2.2 aG).mono ?_;rintro e u3 ⟨V2,cc,rfl,cH⟩;rcases cH with⟨bt,rfl,aH⟩|⟨aI,aj,rfl,aH⟩|⟨aI,aj,rfl,⟨V1,bG,bu⟩,aM,bj⟩
   . (have m:Ae (BJ p f x d=1):=by show BJ p f x d=1;(have i:x.op≠29:= λe=>by have:=HB.o e;subst this;omega);unfold BJ;rw[jH i];exact Uy (by rw[<-Kh i,aF];exact bt));have E4:=Aw (q.1.eX.on aH);clear bt aH q;go_wp2_with fail;go_ret;exact⟨by rw[m];rfl,E4, λe=>absurd (m.symm.trans e) dC⟩
   . (have m:Ae (BJ p f x d=2):=by show BJ p f x d=2;(have i:x.op≠29:= λe=>by have:=HB.o e;subst this;rw[mM,List.drop_zero,UP]at aj;cases aj);unfold BJ;rw[jH i];(have X:AA p f x=h:=by rw[<-Kh i,aF]);exact Jm (by rw[X];exact aI) (.inl (by unfold GX;rw[X];exact aj)));have E4:=Aw (q.1.eX.on aH);clear aI aj aH q;go_wp2_with fail;go_ret;exact⟨by rw[m];rfl,E4, λe=>absurd (m.symm.trans e) dC⟩
   . obtain ⟨va,vc,bS⟩:=AF aM;subst bS;have bZ:=q.2.1.eP.lt;have cI:S<w.heap.size:=H.2.2.2.2.2.2.2.2.1.eP.lt;have E4:=Aw (fd (q.1.step bj (λk e _=>.inl e) (λk e e2=>oM)) (fd bG (fd bu (Rd.eS aM))));have aZ:Ae (BP (Z va h vc)):=by
      rcases Bi aM with⟨e,_⟩|⟨g',c',e⟩
      . exact .inl e
      exact .inr ⟨_,_,_,e⟩
     have ae:=Aw (fd aI aj);clear aI aj bG bu aM bj q bZ;clear W2;obtain⟨s0,s1,s2,s3,s4,s5,s6,s7⟩:=LK E4.1.sb;obtain⟨i0,i1,i2,i3⟩:=CP E4.1.ib;go_wp2_with fail;refine(Hu ⟨Z G nr I,Z E nk F,Z f1 nf f3,Z L nt N⟩ p ⟨Z y np z,Z A nl B,Z C nc D⟩ f x.op x.a x.b x.c u3 H.2.2.1 (H.2.2.2.1.av (au.o u3 E4.1.eX) lR) (H.2.2.2.2.1.av (au.o u3 E4.1.eX) lR) (λe=>H.2.2.2.2.2.1.local oM)).mono ?_;rintro e u4 ⟨⟨b4,rfl,bg⟩,aK⟩;have T:=Aw (fd (E4.1.av aK) (fd (E4.2.1.av aK) (fd E4.2.2.1 (E4.2.2.2.av aK lR))));have aR:=Aw bg;clear bg aK E4 s0 s1 s2 s3 s4 s5 s6 s7 i0 i1 i2 i3;clear u3;(have ai:Ae (x.op≠29->AA p f x=h):= λe=>by rw[<-Kh e,aF]);cases b4
     . have m:Ae (BJ p f x d=2):=by
        show BJ p f x d=2;have h1:x.op=27/\AJ f x.a≠3:=kV λe=>by have:=aR.2 e;cases this
        have i:x.op≠29:=oM;unfold BJ;rw[jH i];exact Jm (by rw[ai.o i];exact ae.1) (.inr h1)
       go_wp2_with fail;go_ret;exact⟨by rw[m];rfl,T.1.eX, λe=>absurd (m.symm.trans e) dC⟩
     . have HG:Ae (¬(x.op=27/\AJ f x.a≠3)):=aR.1 (by first|rfl|trivial)
       clear aR;obtain⟨s0,s1,s2,s3,s4,s5,s6,s7⟩:=LK T.1.sb;obtain⟨i0,i1,i2,i3⟩:=CP T.1.ib;go_wp2_with fail;refine(N7 ⟨Z G nr I,Z E nk F,Z f1 nf f3,Z L nt N⟩ p ⟨Z y np z,Z A nl B,Z C nc D⟩ f x u4 H.1 H.2.1.parts.1.1 H.2.2.1 (H.2.2.2.1.av (au.o u4 T.1.eX) lR) (H.2.2.2.2.1.av (au.o u4 T.1.eX) lR) H.2.2.2.2.2.1).mono ?_;rintro e u5 ⟨gt,rfl,aq,b5⟩;obtain⟨ga,gc,rfl⟩:=aq.aP;have O:=Aw (fd (T.1.av b5) (fd (T.2.1.av b5) (fd T.2.2.1 (fd (T.2.2.2.av b5 lR) aq))));clear aq b5 T s0 s1 s2 s3 s4 s5 s6 s7 i0 i1 i2 i3;clear u4;have bP:=Aw ((Xy H.2.1 H.2.2.2.2.2.1).2);generalize bq:(Bh p f x).length=gl at O⊢;have aY:=Aw bq;clear bq;obtain⟨i0,i1,i2,i3⟩:=CP O.1.ib;have aE:Ae ((d.drop (d.length-↑h)).length= ↑h):=by
        show(d.drop (d.length-↑h)).length= ↑h
        rw[kZ];have:=ae.1;omega
       (go_upto_if 41 with fail);go_cut [10] (λs wx=>∃a c,∃Q:List Int,s=Z a Q c/\Ae (Dr p f x d=d.take (d.length-↑h)++Q/\Q.length<=1048576/\JR w wx ⟨Z G nr I,Z E nk F,Z f1 nf f3,Z L nt N⟩ ⟨Z y np z,Z A nl B,Z C nc D⟩ f x S V/\Fj wx S V1 (d.take (d.length-↑h))/\Rd wx 1 (Z a Q c) Q (Ad As Q)))
       case first=>
        by_cases ax:x.op=23
        . (have bT:(x.op==23)=true:=by simpa using ax);have aA:=Aw ax;clear ax;have B0:=Al u5 (Ak #[Z va h vc,Z va h vc] 27);have K0:=Ay.new u5 #[Z va h vc,Z va h vc] 27;go_wp2_with fail;refine(QO u5 (Z va h vc) (Z va h vc) (d.drop (d.length-↑h)) (d.drop (d.length-↑h)) _ (by rw[aE];exact aG) (by rw[aE];exact aG) (by rw[aE];exact O.2.2.2.1.av B0 lR) (by rw[aE];exact O.2.2.2.1.av B0 lR) aZ aZ (K0.cell 0) (K0.cell 1)).mono ?_
          rintro e u6 ⟨v6,rfl,aO,b6⟩;have br:(d.drop (d.length-↑h)).length+(d.drop (d.length-↑h)).length=(d.drop (d.length-↑h)++d.drop (d.length-↑h)).length:=by rw[jI]
          rw[br]at aO;obtain⟨a6,c6,e6⟩:=AF aO;subst e6;have B6:=Ar B0 lR b6;have P:Ae (Dr p f x d=d.take (d.length-↑h)++(d.drop (d.length-↑h)++d.drop (d.length-↑h))/\(d.drop (d.length-↑h)++d.drop (d.length-↑h)).length<=1048576/\JR w u6 ⟨Z G nr I,Z E nk F,Z f1 nf f3,Z L nt N⟩ ⟨Z y np z,Z A nl B,Z C nc D⟩ f x S V/\Fj u6 S V1 (d.take (d.length-↑h))/\Rd u6 1 (Z a6 (d.drop (d.length-↑h)++d.drop (d.length-↑h)).length c6) (d.drop (d.length-↑h)++d.drop (d.length-↑h)).length (Ad As (d.drop (d.length-↑h)++d.drop (d.length-↑h)))):=by
           (have i:x.op≠29:=by have:=aA.o;omega);(have X:h.length=1:=by rw[<-ai.o i,OH aA];rfl);refine⟨?_,?_,O.1.av B6,O.2.1.av B6,Rd.eS aO⟩
           . unfold Dr;rw[jH i,ZS aA (by have:=ae.1;omega),X]
           rw[jI,aE];omega
          clear aO b6 B6 B0 K0 br O;generalize cj:d.drop (d.length-h.length)++d.drop (d.length-h.length)=Q at P⊢;clear cj;go_wp2_with fail;go_meet;exact⟨_,_,Q,rfl,P⟩
        (have bT:(x.op==23)=false:=by simpa using ax);have aA:=Aw ax;clear ax;have P:Ae (Dr p f x d=d.take (d.length-↑h)++Bh p f x/\(Bh p f x).length<=1048576/\JR w u5 ⟨Z G nr I,Z E nk F,Z f1 nf f3,Z L nt N⟩ ⟨Z y np z,Z A nl B,Z C nc D⟩ f x S V/\Fj u5 S V1 (d.take (d.length-↑h))/\Rd u5 1 (Z ga (Bh p f x).length gc) (Bh p f x).length (Ad As (Bh p f x))):=by
         refine⟨?_,by have:=bP.o;omega,O.1,O.2.1,by rw[aY];exact O.2.2.2.2⟩;unfold Dr;split
         . rename_i n;have X:d=h:=HB.o n;rw[US n,X,mM];rfl
         rename_i n;rw[VG (Xx H.2.1 H.2.2.2.2.2.1) aA];unfold GX;rw[ai.o n]
        go_wp2_with fail;go_meet;exact⟨_,_,Bh p f x,by rw[aY],P⟩
       case rest=>
        obtain⟨pa,pc,Q,rfl,P⟩:=hcut;clear i0 i1 i2 i3;have aT:=Aw O.2.2.1;clear O;obtain⟨W7,cg⟩:∃W,W=wc:=⟨_,rfl⟩;subst cg;go_wp2_with fail;refine(Ow S V1 (Z pa Q pc) (d.take (d.length-↑h)) Q W7 P.2.2.2.1 P.2.2.2.2 (by rw[kp];have:=H.2.2.2.2.2.2.2.2.2;omega) P.2.1).mono ?_
        rintro e u8 ⟨rfl,V',bC,bi,bI⟩;have E8:Ae (JR w u8 ⟨Z G nr I,Z E nk F,Z f1 nf f3,Z L nt N⟩ ⟨Z y np z,Z A nl B,Z C nc D⟩ f x S V/\Fj u8 S V' (Dr p f x d)/\(V'.ownBlock=V.ownBlock\/∀g,V'.ownBlock=K g-> ↑w<=g)):=by
         refine⟨P.2.2.1.step bi (λk e _=> ?_) (λk e e2=> ?_),by rw[P.1];exact bC,?_⟩
         . rcases e with e|e
           . exact .inl e
           exact .inr (by rw[<-aT];exact e)
         . rcases e with e|e
           . omega
           have:=(H.2.2.2.2.2.2.2.2.1.lt k (by rw[<-aT];exact e)).2;omega
         rcases bI with e|e
         . exact .inl (e.trans aT)
         exact .inr λg hg=>jN P.2.2.1.eX.size (e g hg)
        clear bC bi bI P;clear W7;go_wp2_with fail;refine(Fy S V' (Dr p f x d) u8 E8.2.1).mono ?_;rintro e u9 ⟨rfl,rfl⟩;(have bQ:Ae (x.op=29->Dr p f x d=[]):= λe=>by unfold Dr;rw[jP e]);by_cases aa:64<(Dr p f x d).length
        . (have m:Ae (BJ p f x d=3):=by (have i:x.op≠29:= λe=>by rw[bQ.o e]at aa;simp at aa);(have X:Dr p f x d=H8 p f x d:=by unfold Dr;rw[jH i]);rw[X]at aa;show BJ p f x d=3;unfold BJ;rw[jH i];exact Sz (by rw[ai.o i];exact ae.1) (by unfold GX;rw[ai.o i];exact ae.2) HG aa);have bY:(64:Int)<((Dr p f x d).length:Int):=oM;clear aa;go_wp2_with fail;go_ret;exact⟨by rw[m];rfl,E8.1.eX, λe=>absurd (m.symm.trans e) dC⟩
        . have m:Ae (BJ p f x d=0):=by
           show BJ p f x d=0;unfold BJ;split
           . rename_i n;rw[jP];rw[HB.o n,<-aF,OG n]
           rename_i i;(have X:Dr p f x d=H8 p f x d:=by unfold Dr;rw[jH i]);rw[X]at aa;exact Sy (by rw[ai.o i];exact ae.1) (by unfold GX;rw[ai.o i];exact ae.2) HG aa
          have bY:¬(64:Int)<((Dr p f x d).length:Int):=oM;clear aa;go_wp2_with fail;go_ret;exact⟨by rw[m];rfl,E8.1.eX, λ_=>⟨V',E8.2.1,E8.2.2⟩⟩
def nW(F:List (List Int×J)):List (J×List Int):=F.map λx=>(x.2,x.1)
structure K6(w:Y)(base:Nat)(s:J)(F:List (List Int×J)):Prop where
 row:Ab w base 27 1 s F (Ad Ia F)
 eT:CO w base (nW F)
theorem CO.j6{w a:Y}{L:List (J×List Int)}(h:CO w base L)(b:Ah w w a):CO a base L:=⟨λx c=>AC (h.own x c) b lR,h.sep⟩
theorem K6.rd{w:Y}{s:J}{F:List (List Int×J)}(h:K6 w base s F):OT w s (F.map Prod.fst):=⟨F,rfl,by rw[kC];exact Rd.eS h.row, λx a=>Rd.eS (h.eT.own (x.2,x.1) (kI.2 ⟨x,a,rfl⟩))⟩
structure LP(w u:Y)(V:J)(ys:List (ML×J×J)):Prop where
 iu:Ab u w 65 3 V ys (Ad GQ ys)
 eT:CO u w (ys.map λy=>(y.2.2,y.1.aC))
 cq:Ah w w u
theorem LP.av{w u b:Y}(h:LP w u V ys)(a:Ah u u b):LP w b V ys:=⟨AC h.iu a lR,h.eT.fY a,Ar h.cq lR a⟩
theorem LP.add{w u c e:Y}{g cap:Nat}{m:ML}(h:LP w u V ys)(f:Ah u u c)(k:Ab c u 2 1 a m.aC (Ad As m.aC))(n:Ab e w 65 3 (sG g (ys.length+1) cap) (ys.length+1) (Ad GQ ys++[iZ m.head,d,a]))(j:c.grownBy e V.ownBlock):LP w e (sG g (ys.length+1) cap) (ys++[(m,d,a)]):=by
 have b:=h.av f;have p:CO c w ((ys++[(m,d,a)]).map λy=>(y.2.2,y.1.aC)):=by have:=h.eT.join f k h.cq.size;simpa using this
 refine⟨?_,p.fM j b.iu dC,b.cq.grown j b.cq.size (λi l=>(b.iu.lt i l).1)⟩;rw[jI,kE,kJ];exact n
theorem Qu{E:Nat->List Nat}{D:Nat->Nat->Bool}{n b:Nat}{S O:List Nat}{l:Nat->Bool}(F:∀b,b<n->∀x∈E b,x<n)(G:b<n)(C:Vs (Bq E n) [b] [] (AO E D n b) S O)(m:∀x,l x=true↔AU E D n b x):((ints (O++[b])).mergeSort λx y=>decide (x<=y))=ints ((List.range n).filter l)/\ ↑O+1<=n:=by
 obtain⟨N,t⟩:=C.told;obtain rfl:O=N:=by simpa using t.o
 have A:∀q,q<n->∀x∈Bq E n q,x<n:= λq _ x d=>((Di E n q x).1 d).1
 have p:∀x∈O,x<n:= λx d=>by obtain⟨q,f,g⟩:=t.from_ x d;exact g.lt A ((DN E D n b q).1 f).1
 have w:b∉O:= λq=>t.fresh b q (kt ..)
 have u:(O++[b]).Nodup:=mX.2 ⟨t.nodup,sP, λa v c r e=>by simp only[jK,jO,kM]at r;subst r e;exact w v⟩;have s:∀x,x∈O++[b]↔AU E D n b x:= λx=>by
  rw[jL,jU];unfold AU;rw[Or.comm];refine or_congr_right ?_;rw[t.iff x];constructor
  . rintro⟨q,f,g⟩;exact⟨q,f,g.mono λy k e=>k (by rw[e];simp)⟩
  rintro⟨q,f,g⟩;exact⟨q,f,g.mono λy k e=>k (by simpa using e)⟩
 have B:(ints (O++[b])).Nodup:=by unfold ints;refine mH.2 (u.imp λh e=>h oM)
 refine⟨?_,?_⟩
 . refine Jb _ _ (OA _ B) ?_ λz=> ?_
   . unfold ints;refine mH.2 ((List.Pairwise.filter _ mT).imp λh=>oM)
   rw[(mS _ _).mem_iff];unfold ints;rw[kI,kI];constructor
   . rintro⟨x,i,j⟩;refine⟨x,lY.2 ⟨k6.2 ?_,(m x).2 ((s x).1 i)⟩,j⟩;rcases jL.1 i with q|q
     . exact p x q
     (have:x=b:=by simpa using q);omega
   rintro⟨x,i,j⟩;exact⟨x,(s x).2 ((m x).1 (lY.1 i).2),j⟩
 have:=H6 (O++[b]) n (λx d=>by
  rcases jL.1 d with q|q
  . exact p x q
  have:x=b:=by simpa using q
  omega) u
 rw[jI,kE]at this;omega
theorem Vk(G n gF cF gB:Nat)(E:Nat->List Nat)(D r:Nat->Nat->Bool)(v:List (J×List Nat))(w:Y)(hn:n<=1024)(hE:∀b,b<n->∀x∈E b,x<n)(aK:∀b,(E b).length<=2)(hL:∀h x,r h x=true↔AU E D n h x)(h1:w ⟨G,1,M⟩=K (sG gF n cF))(hF:Gh w gF 0 n (Bq E n))(hB:∀x,x<n->∃V,v[x]?=K (V,AO E D n x)/\w ⟨gB,x,M⟩=K V/\Lp w V (AO E D n x)):
 Ai Aq 27 #[.pointer G,sG gB n n] w λe w'=>∃V,e=Am V/\∃ys,LP w w' V ys/\ys.map Prod.fst=BA E D r n n/\List.Sublist (ys.map λy=>(y.2.1,y.1.back)) (v.map λx=>(x.1,ints x.2)):=by
 obtain⟨k0,hk,br,bt,bu⟩:=km Cy;obtain⟨l0,hl,aZ,bf,bg⟩:=km XD;have H:=Aw (fd hF (fd hE (fd aK (fd hL (fd h1 hB)))));clear hF hE aK hL h1 hB;go_enter func27,ntmps27;go_wp2;go_loopw [5,12] (λV i wr=>∃(b:Nat) (ys:List (ML×J×J)) (a:Option Addr) (c:Nat),b<=n/\i=iZ b/\V=Z a ys c/\ ↑ys<=b/\Ae (LP w wr V ys/\ys.map Prod.fst=BA E D r n b/\List.Sublist (ys.map λy=>(y.2.1,y.1.back)) ((v.take b).map λx=>(x.1,ints x.2)))) (λ_ i _=>n-(intOf i).toNat)
 case atStart=>exact⟨0,[],M,0,oM,rfl,rfl,sP,⟨kH _ _ _ _,⟨λx P=>(by cases P),List.Pairwise.nil⟩,jZ _ _⟩,rfl,sP⟩
 obtain⟨b,ys,al,cl,hb,rfl,rfl,bI,p⟩:=hrel;by_cases aj:b<n
 . have bi:(b:Int)<(n:Int):=oM;obtain⟨VB,q1,q2,q3⟩:=H.2.2.2.2.2 b aj;obtain⟨k,l,rfl⟩:=Rd.aP q3;have HV:=Aw (fd q1 q3);(have aA:Ae ((v.take (b+1)).map (λx=>(x.1,ints x.2))=(v.take b).map (λx=>(x.1,ints x.2))++[(Z k (AO E D n b).length l,ints (AO E D n b))]):=by obtain⟨hl,e⟩:=f7.1 q1;show _=_;rw[kN hl,e,k8];rfl);(replace q2:=Az p.1.cq q2);(have bB:(AO E D n b).length<=2048:=by have:=NW H.2.2.1 D b n;omega);clear q1 q3;by_cases T:AO E D n b=[]
   . (have aX:(AO E D n b).length=0:=by rw[T];rfl);have Q:Ae (ys.map Prod.fst=BA E D r n (b+1)/\List.Sublist (ys.map λy=>(y.2.1,y.1.back)) ((v.take (b+1)).map λx=>(x.1,ints x.2))):=by
      refine⟨?_,?_⟩
      . rw[Jy,jP T,lK];exact p.2.1
      rw[aA];exact p.2.2.trans (List.sublist_append_left _ _)
     rw[aX]at q2;go_wp2;go_roundw;(case rel=>exact⟨b+1,ys,al,cl,oM,by go_num,by trivial,oM,p.1,Q.1,Q.2⟩);exact oI
   have bC:0<(AO E D n b).length:=mv.2 T;have bG:(((AO E D n b).length:Int)==0)=false:=oT;have bH:¬((AO E D n b).length:Int)=0:=oM;have f1:=Az p.1.cq H.2.2.2.2.1;have R:=Al wr (Ak #[(b:Int)] 2);have f2:=Az R f1;have F:=Aw (fd (Ar p.1.cq lR R) (fd (((Ay.new wr #[(b:Int)] 2).cell 0):(Ac wr (Ak #[(b:Int)] 2)) wr=K ↑(b:Int)) R))
   clear R;go_wp2_with fail;refine(II gF 0 cF n (Bq E n) _ (AO E D n b) _ [b] _ hn (λq hq x P=>((Di E n q x).1 P).1) (λq=>by have:=J9 H.2.2.1 n q;omega) (H.1.av F.1) (λx P=>((DN E D n b x).1 P).1) oM (HV.2.av F.1) (.inr ⟨b,wr,1,rfl,aj,rfl,F.2.1⟩)).mono ?_;rintro e t ⟨V2,S2,d,rfl,aM,au,b2⟩;obtain⟨a2,c2,rfl⟩:=AF au;obtain⟨aJ,bx⟩:=Qu H.2.1 aj aM (H.2.2.2.1 b);have z:Ae (K5 t wr (Z a2 d c2) d/\Ah wr wr t/\((ints (d++[b])).mergeSort λx y=>decide (x<=y))=ints ((List.range n).filter (r b))):=⟨BI au F.2.2.size,Ar F.2.2 lR b2,aJ⟩
   have S:=Al t (Ak #[(b:Int)] 2);have L:Ae (Ab (Ac t (Ak #[(b:Int)] 2)) wr 2 1 (Z a2 d c2) d (nv d)/\ ↑wr<=(Ac t (Ak #[(b:Int)] 2)).heap.size/\Ah wr wr (Ac t (Ak #[(b:Int)] 2))):=⟨z.1.av S,jN z.2.1.size S.size,Ar z.2.1 lR S⟩
   clear aM au b2 aJ F f1 f2 S;go_wp2_with (first
    |(at_builtin;refine wpList_append_lies _ rfl _ _ 27 rfl wr 2 k0 (iZ 0) 1 8 underlying27 hk br bt bu rfl dC _ d (nv d) rfl L.1 t 1 1 [(b:Int)] rfl rfl (FC t (b:Int)) (λu O=>by simp at O;subst O;rfl) oM (by simp[maxLen];omega) oM L.2.1 _ rfl ?_;intro g f X W U aT aq;have I:Ae (Ab X wr 2 1 (sG g (d.length+1) f) (d.length+1) (nv (d++[b]))/\Ah wr wr X):=⟨by rw[Mu];exact W,L.2.2.grown U L.2.2.size (λi hi=>(z.1.lt i hi).1)⟩;clear W U aT aq)
    |fail)
   have N:Ae (Ab X wr 2 1 (sG g (ints (d++[b])).length f) (ints (d++[b])).length (Ad As (ints (d++[b])))/\(ints (d++[b])).length= ↑d+1):=by
    have e:(ints (d++[b])).length= ↑d+1:=by rw[A4,jI,kE]
    rw[e,<-Ex];exact⟨I.1,rfl⟩
   have ae:=Yv g f wr (ints (d++[b])) X (by rw[N.2];omega) N.1;rw[N.2,z.2.2]at ae;refine ae.mono ?_;rintro e s ⟨rfl,aH,g4⟩;have aG:((List.range n).filter (r b)).length= ↑d+1:=by have:=congrArg List.length z.2.2;rw[(mS _ _).length_eq,N.2,A4]at this;exact this.symm
   have aE:Ae (Ab s wr 2 1 (sG g (d.length+1) f) (ints ((List.range n).filter (r b))).length (Ad As (ints ((List.range n).filter (r b))))/\Ah wr wr s):=by refine⟨by rw[A4,aG];exact aH,I.2.grown g4 I.2.size (λj hj=>by cases hj;exact(AY I.1).1)⟩
   clear aH g4 ae N I L z aG;have bN:=Al s (Ak #[(b:Int),Z k (AO E D n b).length l,sG g (d.length+1) f] 65);have aa:Ae (LP w (Ac s (Ak #[(b:Int),Z k (AO E D n b).length l,sG g (d.length+1) f] 65)) (Z al ys cl) ys/\Ah wr wr (Ac s (Ak #[(b:Int),Z k (AO E D n b).length l,sG g (d.length+1) f] 65))/\ ↑w<=(Ac s (Ak #[(b:Int),Z k (AO E D n b).length l,sG g (d.length+1) f] 65)).heap.size):=by have ai:=Ar aE.2 lR bN;exact⟨p.1.av ai,ai,jN p.1.cq.size ai.size⟩
   (have aQ:Ae (∀j u,[(iZ (b:Int):J),Z k (AO E D n b).length l,sG g (d.length+1) f][j]?=K u->(Ac s (Ak #[(b:Int),Z k (AO E D n b).length l,sG g (d.length+1) f] 65)) ((⟨s,0,M⟩:Addr).add j)=K u):= λj u hj=>World.news_of_block (Ay.new s #[(b:Int),Z k (AO E D n b).length l,sG g (d.length+1) f] 65) j u hj);(have aO:Ae (∀B A C,C.ownsRow w 65 3 (sG B (ys.length+1) A) (ys.length+1) (ys.flatMap GQ++[iZ (b:Int),Z k (AO E D n b).length l,sG g (d.length+1) f])->(Ac s (Ak #[iZ (b:Int),Z k (AO E D n b).length l,sG g (d.length+1) f] 65)).grownBy C (Z al ys cl).ownBlock->LP w C (sG B (ys.length+1) A) (ys++[((⟨(b:Int),ints (AO E D n b),ints ((List.range n).filter (r b))⟩:ML),(Z k (AO E D n b).length l:J),(sG g (d.length+1) f:J))])):= λB A C W U=>p.1.add (m:=⟨(b:Int),ints (AO E D n b),ints ((List.range n).filter (r b))⟩) aa.2.1 (AC aE.1 bN lR) W U);have ax:Ae ((ys++[((⟨(b:Int),ints (AO E D n b),ints ((List.range n).filter (r b))⟩:ML),(Z k (AO E D n b).length l:J),(sG g (d.length+1) f:J))]).map Prod.fst=BA E D r n (b+1)/\List.Sublist ((ys++[((⟨(b:Int),ints (AO E D n b),ints ((List.range n).filter (r b))⟩:ML),(Z k (AO E D n b).length l:J),(sG g (d.length+1) f:J))]).map λy=>(y.2.1,y.1.back)) ((v.take (b+1)).map λx=>(x.1,ints x.2))):=by
    refine⟨?_,?_⟩
    . rw[Jy,jH T,k8,p.2.1];rfl
    rw[aA,k8];exact p.2.2.append (List.Sublist.refl _)
   have bj: ↑ys+1<=maxLen:=oX
   have aY:(ys.length+1)*56<=140737488355328:=oM;(have bq:∀u∈[(iZ (b:Int):J),Z k (AO E D n b).length l,sG g (d.length+1) f],u.oneCell'=true:= λu O=>by simp at O;rcases O with rfl|rfl|rfl<;>rfl);go_wp2_with (at_builtin;refine wpList_append_lies _ rfl _ _ 59 rfl w 65 l0 (An #[iZ 0,sN,sN]) 3 56 underlying59 hl aZ bf bg rfl dC _ ys (ys.flatMap GQ) rfl aa.1.iu s 1 1 [(b:Int),Z k (AO E D n b).length l,sG g (d.length+1) f] rfl rfl aQ bq Nat.one_pos bj aY aa.2.2 _ rfl ?_;intro B A C aI aF aW aq;have aR:Ae (LP w C (sG B (ys.length+1) A) (ys++[((⟨(b:Int),ints (AO E D n b),ints ((List.range n).filter (r b))⟩:ML),(Z k (AO E D n b).length l:J),(sG g (d.length+1) f:J))])):=aO.o B A C aI aF;clear aI aF aW aq);go_roundw;(case rel=>exact⟨b+1,_,K B,A,oM,by go_num,by rw[jI,kE],by rw[jI,kE];omega,aR,ax.1,ax.2⟩);exact oI
 have aS:b=n:=oM;have bi:¬(b:Int)<(n:Int):=oM;rw[aS]at p;have Q:=Aw (p.2.2.trans (List.Sublist.map _ (List.take_sublist _ _)));go_wp2;go_ret;exact⟨_,rfl,ys,p.1,p.2.1,Q⟩
theorem Of(S:Nat)(V:J)(xs:List Int)(w:Y)(h:Fj w S V xs)(B:xs.length<=1048576):Ai Aq 246 #[.pointer S] w λe i=>∃a c,e=Am (Z a xs c)/\Hm i w (Z a xs c) xs/\Ah w w i:=by
 obtain⟨i0,q,D,E,F⟩:=km Cy;obtain⟨v,c1,rfl⟩:=AF h.own;have c0:=h.eP.cell 0;simp only[i5,f8]at c0;have f:=Rd.eS h.own;have HO:Ae (Ab w w 2 1 (Z M 0 0) 0 []):=kH _ _ _ _;cases v with
 | none=>
   have s:xs.length=0:=by
    rcases f.2 with⟨k,_⟩|⟨g,o,c,b,_⟩
    . exact k
    cases b
   have C:xs=[]:=jR s;subst C;(have A:∀ty,(Builtin.append_ #[27,27] ty #[sN,Z M 0 c1]).run Aq w=.ok sN w:= λty=>Ft (P:=Aq) w 27 ty 2 i0 1 underlying27 q _ _ _ HO c1);clear h f s;rw[lH]at c0⊢;go_enter func246,ntmps246;go_wp2_with (at_builtin;refine Lib.wpList_append_run _ rfl _ _ _ _ rfl _ _ rfl rfl _ _ (A _) ?_);go_ret;exact⟨_,_,rfl,HO,jZ _ _⟩
 | some ad=>
   have t:Ae (∀j u,(Ad As xs)[j]?=K u->w (ad.add j)=K u):= λj u d=>by
    rcases f.2 with⟨k,_⟩|⟨g,o,c,b,y⟩
    . have:xs=[]:=jR k;subst this;simp at d
    simp only[i8,jJ]at b;obtain⟨rfl,_⟩:=b;rw[Cx];exact y j u d
   clear h f;generalize r:xs.length=m at B c0⊢;have HM:=Aw r;clear r;go_enter func246,ntmps246;go_wp2_with (at_builtin;refine wpList_append_own _ rfl _ _ 27 rfl w 2 i0 (iZ 0) 1 8 underlying27 q D E F rfl dC _ 0 [] rfl HO ad m c1 (Ad As xs) rfl ?c1 t.o (Ct _) ?c4 ?c5 lR ?_);(case c1=>rw[AV As 1 AE,HM]);(case c4=>unfold maxLen;omega);(case c5=>omega);intro v' i l p z;(obtain⟨x,c2,rfl⟩:∃a c,v'=Z a m c:=by have:=(Rd.eS l).aP;simpa using this);have n:=Aw (fd ((by unfold Hm;rw[HM];simpa using l):Hm i w (Z x m c2) xs) ((jZ _ _).grown p lR (λj d=>by cases d)));clear l p z;go_wp2;go_ret;exact⟨_,_,rfl,n.1,n.2⟩
structure Gm(w u:Y)(v:VP)(g:VF)(f:MF)(bv:J)(TB MB GS n B N:Nat)(RS:List J)(s:WI):Prop where
 tb:Ay u TB #[v.r,v.k,v.f,v.t,g.p,f.cu,g.l,g.c,bv,.map (K MB),sG GS n n,s.d] 331
 mp:∃cnt D,AP u MB cnt D/\cnt<=N/\∀b:Nat,Go.Maps.has D (.int Af (b:Int))=s.c b
 sa:Ab u w 27 1 (Z GS n n) n RS
 sl: ↑RS=n
 rs:∀(j:Nat) (V:J),RS[j]?=K V->Hm u B V (s.r j)
 cq:Ah w w u
 lo: ↑w<=TB/\ ↑w<=MB/\ ↑w<=GS
 ne:TB≠MB/\TB≠GS/\MB≠GS/\TB<B/\MB<B/\GS<B
 sz:B<=u.heap.size
 dl:s.d<=64
 rl:∀j,(s.r j).length<=64
 ap:∀(i j:Nat) (V W:J),i≠j->RS[i]?=K V->RS[j]?=K W->∀g,V.ownBlock=K g->W.ownBlock≠K g
theorem AP.eX{u c:Y}{a:Nat}{D:DataW Unit}(h:AP u b a D)(i:DX R u c)(k:¬R b):AP c b a D:=by have j:=lg h;obtain⟨e,d,g,F,l,f⟩:=h;exact⟨e,d,(i.block b j k).trans g,F,l,f⟩
def Sa(a:List J)(R:Nat->Prop):Prop:=∀(j:Nat) (V:J),a[j]?=K V->∀g,V.ownBlock=K g->¬R g
theorem Gm.eX{w u p:Y}{bv:J}{m MB l n B N:Nat}{i:List J}(h:Gm w u v g f bv m MB l n B N i s)(a:DX R u p)(c:∀k,R k->B<=k)(r:Sa i R):Gm w p v g f bv m MB l n B N i s:=by
 obtain⟨G,H,I,A,L,O⟩:=h.ne;obtain⟨q,D,y,t,x⟩:=h.mp;obtain⟨z,E,F⟩:=h.lo;refine⟨a.eP h.tb (λe=>by have:=c _ e;omega),⟨q,D,y.eX a (λe=>by have:=c _ e;omega),t,x⟩,a.own h.sa (λb d e=> ?_),h.sl, λj V e=>a.own (h.rs j V e) (λb d=>r j V e b d),?_,h.lo,h.ne,jN h.sz a.size,h.dl,h.rl,h.ap⟩
 . simp only[Value.ownBlock,jJ]at d;subst d;have:=c _ e;omega
 exact h.cq.trans (a.below (jN (jN z (mI A)) h.sz) (λk C e=>by have:=c _ e;omega))
theorem Gm.av{w u d:Y}{bv:J}{c MB a n B N:Nat}{b:List J}(h:Gm w u v g f bv c MB a n B N b s)(i:Ah u.heap.size u d):Gm w d v g f bv c MB a n B N b s:=h.eX (R:= λ_=>False) (DX.of i) (λ_ e=>e.elim) (λ_ _ _ _ _ e=>e)
theorem Gm.fR{w u:Y}{bv:J}{x MB q n B N:Nat}{l:List J}(h:Gm w u v g f bv x MB q n B N l s){t:List Int}(F:Hm u B V t)(b:t.length<=64)(A:∀(i:Nat) (W:J),l[i]?=K W->∀g,V.ownBlock=K g->W.ownBlock≠K g):Gm w (Aa u ⟨q,j,M⟩ V) v g f bv x MB q n B N (l.set j V) ⟨s.c,Ec s.r j t,s.d⟩:=by
 obtain⟨S,T,O,U,n5,n6⟩:=h.ne;obtain⟨E,D,L,G,I⟩:=h.mp;obtain⟨P,Q,R⟩:=h.lo;refine⟨h.tb.other oS V,⟨E,D,World.ownsMap.setCell L (by simp only[];exact O) V,G,I⟩,(h.sa.stored j V).1,by rw[ki];exact h.sl, λi W e=> ?_,h.cq.setCell oS V,h.lo,h.ne,by rw[Q3];exact h.sz,h.dl, λi=> ?_, λi k X y C p a=> ?_⟩
 . simp only[Ec];by_cases m:i=j
   . subst m;(have b:i<l.length:=by have:=(f7.1 e).1;rw[ki]at this;exact this);rw[kw b]at e;(cases e);rw[jP rfl];exact F.set oS V
   rw[lh (λe=>m e.symm)]at e;rw[jH m];exact(h.rs i W e).set oS V
 . simp only[Ec];split
   . exact b
   exact h.rl i
 by_cases m:i=j
 . subst m;(have b:i<l.length:=by have:=(f7.1 p).1;rw[ki]at this;exact this);rw[kw b]at p;(cases p);rw[lh C]at a;exact A k y a
 rw[lh (λe=>m e.symm)]at p;by_cases z:k=j
 . subst z;(have b:k<l.length:=by have:=(f7.1 a).1;rw[ki]at this;exact this);rw[kw b]at a;(cases a);exact λg H e=>A i X p g e H
 rw[lh (λe=>z e.symm)]at a;exact h.ap i k X y C p a
theorem Gm.fI{w u:Y}{bv:J}{a MB b n B N:Nat}{j:List J}(h:Gm w u v g f bv a MB b n B N j s)(d:Nat)(p:d<=64):Gm w (Aa u ⟨a,11,M⟩ (.int Af (d:Int))) v g f bv a MB b n B N j ⟨s.c,s.r,d⟩:=by obtain⟨A,C,E,F,G,H⟩:=h.ne;obtain⟨l,D,t,m,q⟩:=h.mp;obtain⟨x,y,z⟩:=h.lo;have k:=h.tb.set 11 d;simp only[kB,kX,kU]at k;exact⟨k,⟨l,D,World.ownsMap.setCell t oS _,m,q⟩,kK h.sa (by simp[Value.ownBlock];omega) _,h.sl, λi W e=>(h.rs i W e).set oS _,h.cq.setCell oS _,h.lo,h.ne,by rw[Q3];exact h.sz,p,h.rl,h.ap⟩
theorem Gm.put{w u l:Y}{bv:J}{x MB p n B N:Nat}{q:List J}(h:Gm w u v g f bv x MB p n B N q s){t i:Nat}{D:DataW Unit}(A:AP u MB i D)(I:i<=N)(z:∀b:Nat,Go.Maps.has D (.int Af (b:Int))=s.c b)(C:AP l MB (i+1) (D.put (.int Af (t:Int)) (.agg [])))(y:u.grownBy l (K MB)):Gm w l v g f bv x MB p n B (N+1) q ⟨Jd s.c t,s.r,s.d⟩:=by
 obtain⟨F,Q,R,G,S,T⟩:=h.ne;obtain⟨E,O,P⟩:=h.lo;have a:DX (λk=>k=MB) u l:=(DX.refl _ _).grown y (λk _ e=>by cases e;rfl);refine⟨a.eP h.tb F,⟨i+1,_,C,oM, λb=> ?_⟩,a.own h.sa (λb m e=> ?_),h.sl, λj V e=>a.own (h.rs j V e) (λb m H=> ?_),h.cq.trans (a.below (jN (jN E (mI G)) h.sz) (λk L e=>oM)),h.lo,h.ne,jN h.sz a.size,h.dl,h.rl,h.ap⟩
 . rw[Ew D (lU A),z b];simp only[Jd];by_cases e:b=t
   . subst e;simp
   have:¬((b:Int)=(t:Int)):=oM;simp[e,this]
 . simp only[Value.ownBlock,jJ]at m;omega
 have:=(h.rs j V e).lt b m;omega
structure Qj(w:Y)(v:VP)(p:MP)(g:VF)(f:MF):Prop where
 ps:p.small
 pf:AX p 0
 fs:f.small
 rp:ET w v p
 rf:FH w g f
 c1:1<=f.aU.length
 cl:f.aU.length<=1024
 pl:Gk f.aU
 ok:∀x∈f.aU,AW p f x
 last:∀(k:Nat) x,f.aU[k]?=K x->Ij x=true->k+1< ↑f.aU
theorem Fj.fZ{u:Y}(h:Fj u S V xs){a:Addr}(b:a.block<S)(x:J):Fj (u.setCell a x) S V xs:=⟨h.eP.other oM x,kQ h.own oM x⟩
theorem Sa.set{a:List J}(h:Sa a R)(d:∀g,V.ownBlock=K g->¬R g):Sa (a.set j V) R:= λi W e g c=>by
 by_cases b:i=j
 . subst b;(have f:i<a.length:=by have:=(f7.1 e).1;rw[ki]at this;exact this);rw[kw f]at e;(cases e);exact d g c
 rw[lh (λe=>b e.symm)]at e;exact h i W e g c
def pX(w u:Y)(v:VP)(g:VF)(f:MF)(bv:J)(q j i n B N:Nat)(l:List J)(s:WI)(S:Nat)(V:J)(h:List Int)(t a:Nat)(e:Ending)(b:Y):Prop:=(s.c t=true/\∃p,e=Am (.bool p)/\(p=true↔h=s.r a)/\Ah u u b)\/(s.c t=false/\e=Am true/\∃m,Gm w b v g f bv q j i n B (N+1) (l.set a m) ⟨Jd s.c t,Ec s.r a h,s.d⟩/\Fj b S V h/\Sa (l.set a m) (Eh S V)/\DX (λk=>k=j\/k=i) u b)
theorem QN(w u:Y)(v:VP)(g:VF)(f:MF)(bv:J)(z x q n B N:Nat)(l:List J)(s:WI)(y:List MB)(S:Nat)(V:J)(j:List Int)(t a:Nat)(m:MB)(h:Gm w u v g f bv z x q n B N l s)(R:K8 w bv y)(hm:y[t]?=K m)(aS:m.cz=(a:Int))(ha:a<n)(hn:n<=1024)(bt:y.length<=1024)(hN:N<=4096)(aX:Fj u S V j)(hS:B<=S)(aK:Sa l (Eh S V))(bj:j.length<=64):
 Ai Aq 249 #[.pointer z,t,.pointer S] u (pX w u v g f bv z x q n B N l s S V j t a):=by
 obtain⟨ba,bc,rfl⟩:∃a c,bv=Z a y c:=by obtain⟨_,_,h2,_⟩:=R;exact h2.aP
 obtain⟨gb,T,xa,xc,ev,x0,x1,x2,bi⟩:=TF R hm;subst ev;rw[aS,<-h.cq.cell (i7 x0)]at x0;have bB:t<y.length:=(f7.1 hm).1;have bx:(t:Int)<(y:Int):=oM;have br:(a:Int)<(n:Int):=oM;have aY:Fb (t:Int):=Dm oM;have H:=Aw (fd h (fd aX (fd hS aK)));obtain⟨aa,D,aW,aQ,aR⟩:=h.mp;have HM:=Aw (fd aW (fd aQ aR));have c8:=h.tb.cell 8;have P:=h.tb.cell 9;simp only[i5,f8,i6]at c8 P;clear x1 x2 bi aW aQ aR h aX hS aK hm aS R;go_enter func249,ntmps249;go_wp2_with fail;refine(Jr x aa D (t:Int) u aY HM.1).mono ?_;rintro e C ⟨rfl,O⟩;rw[HM.2.2 t];have p:Ae (Gm w C v g f (sO gb T y bc) z x q n B N l s/\Fj C S V j/\B<=S/\Sa l (Eh S V)):=⟨H.1.av O,H.2.1.av O,H.2.2⟩
 have aG:=Aw O;have aH:Ae (DX (λk=>k=x\/k=q) u C):=DX.of O
 have L:Ae (AP C x aa D/\aa<=N/\∀b:Nat,Go.Maps.has D (.int Af (b:Int))=s.c b):=⟨HM.1.av O,HM.2⟩
 clear O HM H x0 c8 P;have P:=p.1.tb.cell 9;have au:=p.1.tb.cell 10;simp only[i5,f8,i6]at P au;obtain⟨V0,aE⟩:∃V,l[a]?=K V:=⟨_,an (by rw[p.1.sl];exact ha)⟩;have ai:=p.1.rs a V0 aE;have bu:=p.1.rl a;obtain⟨va,vc,bf⟩:=AF ai;subst bf;have ax:=p.1.sa.cellAt a oM;rw[aE]at ax;cases hc:s.c t with
 | true=>have HR:=Aw ai;clear ai;go_wp2_with fail;refine(Mh S V (Z va (s.r a).length vc) j (s.r a) C p.2.1 (Rd.eS HR) oM oM).mono ?_;rintro e F ⟨⟨bb,rfl,aM⟩,b2⟩;have HE:=Aw (fd aM (fd (Ar aG lR b2) hc));clear aM b2 P au ax;go_wp2_with fail;go_ret;exact .inl ⟨HE.2.2,bb,rfl,HE.1,HE.2.1⟩
 | false=>
   have HC:=Aw hc;clear ai aE hc;(go_upto_region 5 with(go_at_call 59;refine(Dh x aa C 1 D (t:Int) _ aY (by have:=L.2.1;omega) sP (by have:=p.1.ne;have:=p.1.sz;omega) (L.1.av (Al _ _))).mono ?_;rintro e F ⟨rfl,aT,ae⟩));have H2:Ae (Gm w F v g f (sO gb T y bc) z x q n B (N+1) l ⟨Jd s.c t,s.r,s.d⟩/\Fj F S V j/\B<=S/\Sa l (Eh S V)):=by have hA:=Al C (Ak #[t] 2);obtain⟨n1,n2,n3,n4,n5,n6⟩:=p.1.ne;have hS:=p.2.2.1;have aO:DX (λk=>k=x) (Ac C (Ak #[t] 2)) F:=(DX.refl _ _).grown ae (λk _ e=>by cases e;rfl);have aF:=p.2.1.av hA;exact⟨(p.1.av hA).put (L.1.av hA) L.2.1 L.2.2 aT ae,⟨aO.eP aF.eP oM,aO.own aF.own (λb R e=>by have:=(aF.lt b R).1;omega)⟩,p.2.2⟩
   have aI:=Aw (((aH.on (Al C (Ak #[t] 2))).grown ae (λk _ e=>by cases e;exact .inl rfl)).on (At _));clear aT ae L p aG aH P au ax;have E:Ae (Gm w F.drew v g f (sO gb T y bc) z x q n B (N+1) l ⟨Jd s.c t,s.r,s.d⟩/\Fj F.drew S V j/\B<=S/\Sa l (Eh S V)):=⟨H2.1.av (At _),H2.2.1.av (At _),H2.2.2⟩
   have bo:F.drew ⟨z,10,M⟩=K (sG q n n):=E.1.tb.cell 10;refine wp_region_held_drew (S:= λw'=>w' ⟨z,10,M⟩=K (sG q n n)) kR bo (λaA=> ?_);refine A5 0 ?_;refine A5 1 ?_;refine A5 2 ?_;refine A5 3 ?_;refine A5 4 ?_;refine A5 5 ?_;refine DU 6 ?_;intro KC Q;go_simp;refine(Of S V j F.drew E.2.1 oM).mono ?_;rintro e U ⟨G,I,rfl,aj,b3⟩;have A:Ae (Gm w U v g f (sO gb T y bc) z x q n B (N+1) l ⟨Jd s.c t,s.r,s.d⟩/\Fj U S V j/\B<=S/\Sa l (Eh S V)):=⟨E.1.av b3,E.2.1.av b3,E.2.2⟩
   have aq:Ae (Hm U B (Z G j I) j/\(∀(i:Nat) (W:J),l[i]?=K W->∀g,(Z G j I).ownBlock=K g->W.ownBlock≠K g)/\∀g,(Z G j I).ownBlock=K g->¬Eh S V g):=by
    refine⟨Bt aj E.1.sz, λi W e g hg e2=> ?_, λg hg e2=> ?_⟩
    . have h1:=(aj.lt g hg).1;have h2:=((E.1.rs i W e).lt g e2).2;omega
    have h1:=(aj.lt g hg).1;have h2:=(Eh.ge E.2.1 e2).2;omega
   have aZ:=Aw (aI.on b3);clear aj b3 aI;go_simp;refine Q.o _ _ (by have:=A.1.tb.cell 10;exact this) (λaA=> ?_);clear Q KC;refine A5 7 ?_;refine DU 8 ?_;intro KC Q;have aJ:=A.1.sa.cellAt a oM;have bq:=A.1.sa.frozenAt a;obtain⟨V1,bg⟩:∃V,l[a]?=K V:=⟨_,an (by rw[A.1.sl];exact ha)⟩;rw[bg]at aJ;have X:Ae (Gm w (Aa U ⟨q,a,M⟩ (Z G j I)) v g f (Z (K ⟨gb,T,M⟩) y bc) z x q n B (N+1) (l.set a (Z G j I)) ⟨Jd s.c t,Ec s.r a j,s.d⟩/\Fj (Aa U ⟨q,a,M⟩ (Z G j I)) S V j/\Sa (l.set a (Z G j I)) (Eh S V)):=⟨A.1.fR aq.1 bj aq.2.1,A.2.1.fZ (by have:=A.1.ne;have:=A.2.2.1;simp only[];omega) _,A.2.2.2.set aq.2.2⟩
   go_simp;refine Q.o _ _ (by have:=X.1.tb.cell 10;exact this) (λaA=> ?_);clear Q KC;refine wpAnyH_done kR ?_ _;clear aA bo aJ bq;go_wp2_with fail;go_ret;exact .inr ⟨HC,rfl,_,X.1,X.2.1,X.2.2,aZ.setCell (.inl (.inr rfl)) _⟩
end Go.Proofs.YtkgohaigebcgoaaGreatDoor
