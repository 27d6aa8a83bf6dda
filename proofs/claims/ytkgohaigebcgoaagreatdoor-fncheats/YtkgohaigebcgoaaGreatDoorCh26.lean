import Derived.Test.YtkgohaigebcgoaaGreatDoorCh24
import Derived.Deep.CutBlock
namespace Go.Proofs.YtkgohaigebcgoaaGreatDoor
open Go.ChangeShapes Go.WideShapes Go.ChangeAt Go.RowKit Go.Proofs.Tryz
set_option linter.unusedVariables false
open Go.Value renaming slice → Z,agg → An,bool → Ao
open Option renaming some → K,none → M
open Go renaming Value → J,World → Y,TypeId → Aj,Calls → Ai
open List renaming flatMap → Ad
open Go.Obj renaming cells → Ak
open Go.World renaming alloc → Ac,ownsRow → Ab,setCell → Aa
open Go.RowKit renaming Below → Ah,Hid → Ae
open Go.Ending renaming returned → Am
open Go.Proofs.Tryz renaming prog → Aq
open Go.IntKind renaming i64 → Af
set_option maxHeartbeats 8000000
set_option maxRecDepth 100000
variable {p:MP}{f:MF}{c a a0 d e V:J}{ys:List (ML×J×J)}{s:WI}{b S j base:Nat}{t:Aj}{v:VP}{g:VF}{x:MI}{R:Nat->Prop}{xs:List Int}{l:List J}
theorem TU:∀{c a:Nat} {b:List Int} {T:Nat->List Int} {D:Nat} {e:Int×Nat},El p f c a b T D=.inl e->e.1≠0
 |0,_,_,_,_,_,h=>by cases h
 | c+1,a,b,T,D,e,h=>by
   unfold El at h;split at h
   . cases h
   split at h
   . exact TU h
   rename_i d;(cases h);exact d
theorem TV{c:List MB}:∀{l:List Nat} {s:WS} {e:Int×Nat},J6 p f c l s=.inl e->e.1≠0
 |[],_,_,h=>by cases h
 | b ::r,s,e,h=>by
   unfold J6 at h;split at h
   . cases h
   split at h
   . rename_i m _ g a;(cases h);unfold XZ at a;split at a
     . rename_i d;(cases a);exact TU d
     split at a
     . (cases a);simp
     cases a
   exact TV h
theorem Lp.len{q:Nat}{y:R7}(h:Lp p (q:Int) y)(a:y.aU=0)(c:p.aC[q]?=K f):y.eC.length=f.aU.length:=by
 rcases h with⟨_,e⟩|⟨_,_,d,r,b,_,_,e⟩
 . subst e;cases a
 rw[lV,c]at b;obtain rfl:=mD b;subst e;revert a;cases hr:J6 p f r.a7 (r.dr.map Int.toNat) Wb with
 |inl e=>intro a;exact absurd a (TV hr)
 |inr s=>intro _;simp[RE]
def sy(u:Y)(s:J)(rs:List (List Int)):Prop:=∃xs:List J,Rd u 1 s rs xs/\∀(k:Nat) x,xs[k]?=K x->∃(r:List Int) (a:Option Addr) (c:Nat),rs[k]?=K r/\x=Z a r c
theorem rj{ys:List (List Int×J)}:Ad Hy ys=ys.map Prod.snd:=by
 induction ys with
 |nil=>rfl
 |cons y r a=>rw[mv,a];rfl
theorem sy.of{u:Y}{s:J}{rs:List (List Int)}(h:OO u s rs):sy u s rs:=by obtain⟨xs,f,g,j⟩:=h;refine⟨_,g, λk x b=> ?_⟩;rw[rj,mN,nJ]at b;obtain⟨y,d,rfl⟩:=b;obtain⟨a,c,e⟩:=(j y (lP d)).aD;exact⟨y.1,a,c,by rw[<-f,mN,d];rfl,e⟩
theorem rO{u:Y}{a:Option Addr}{c:Nat}{rs:List (List Int)}(h:sy u (Z a rs c) rs){k:Nat}(q:k< ↑rs):∃(g o:Nat) (b:Option Addr) (r:List Int) (c1:Nat),a=K ⟨g,o,M⟩/\rs[k]?=K r/\u ⟨g,o+k,M⟩=K (Z b r c1):=by
 obtain⟨xs,d,m⟩:=h;have s:=d.1;obtain⟨x,f⟩:∃x,xs[k]?=K x:=⟨_,an oM⟩;obtain⟨r,b,c1,j,l⟩:=m k x f;rcases d.2 with⟨p,_⟩|⟨g,o,c',e,n⟩
 . omega
 simp only[lU]at e;exact⟨g,o,b,r,c1,e.1,j,by rw[n k x f,l]⟩
theorem IU(w:Y)(cs:List J)(t:Aj):∀j u,cs[j]?=K u->(Ac w (Ak cs.toArray t)) ((⟨w,0,M⟩:Addr).add j)=K u:= λj u a=>by rw[Cq,m9,(Ay.new w cs.toArray t).cell j];simpa using a
section
variable {w u0 u u':Y} {X gc cc gd cd n:Nat} {C D:List Int}
end
theorem Nb{w:Y}(h:Ay w b #[a0,a,c,d,e] t):w b=K a0/\w ⟨b,1,M⟩=K a/\w ⟨b,2,M⟩=K c/\w ⟨b,3,M⟩=K d/\w ⟨b,4,M⟩=K e:=⟨h.cell 0,h.cell 1,h.cell 2,h.cell 3,h.cell 4⟩
theorem W8{w:Y}{a:Array J}(h:Ay w b a t):w.frozen? b=false/\w.frozen? ⟨b,1,M⟩=false/\w.frozen? ⟨b,2,M⟩=false/\w.frozen? ⟨b,3,M⟩=false/\w.frozen? ⟨b,4,M⟩=false:=⟨h.frozen 0,h.frozen 1,h.frozen 2,h.frozen 3,h.frozen 4⟩
theorem Ok(fs:List MF):∀(n:Nat) (done:List Int),(∀z∈done,∃q:Nat,z=(q:Int)/\q< ↑fs)->(∀z∈Ej fs n done,∃q:Nat,z=(q:Int)/\q< ↑fs)/\(Ej fs n done).length<= ↑done+n:=by
 intro n;induction n with
 |zero=>intro done h;exact⟨h,Nat.le_refl _⟩
 | succ n g=>
   intro done h;unfold Ej;split
   . rename_i i d;(have f:i<fs.length:=by have:=List.mem_of_find?_eq_some d;simpa using this);obtain⟨b,c⟩:=g (done++[(i:Int)]) λz a=>by
      rcases mA.1 a with e|e
      . exact h z e
      exact⟨i,mK.1 e,f⟩
     refine⟨b,?_⟩;rw[mB,mT]at c;omega
   exact⟨λz a=>(by cases a),sP⟩
section
variable {w u u':Y} {X OB kc kd:Nat} {P4:Array J} {vC vD:J} {C D:List Int}
end
section
variable {w u u':Y} {X OB gc cc gd cd n TB:Nat} {P4:Array J} {C D C' D':List Int}
end
def Ed(S:Nat)(V:J)(j:Nat):Prop:=j=S\/V.ownBlock=K j
def ChT(w:Y)(S:Nat)(V:J)(c:Int)(d:List Int)(b:Y):Prop:=DT (Ed S V) w b/\(c=0->∃a,Fg b S a d/\(a.ownBlock=V.ownBlock\/∀g,a.ownBlock=K g-> ↑w<=g))
structure JJ(w u:Y)(v:VP)(g:VF)(f:MF)(x:MI)(S:Nat)(V:J):Prop where
 sb:Ay u w #[v.r,v.k,v.f,v.t,g.p,f.cu,g.l,g.c] 109
 ib:Ay u ((w:Nat)+1) #[x.op,x.a,x.b,x.c] 25
 gv:DT (Ed S V) w u
theorem JJ.step{w u c:Y}(h:JJ w u v g f x S V)(a:DT R u c)(d:∀k,R k->k< ↑w->Ed S V k)(b:∀k,R k->k= ↑w\/k= ↑w+1->False):JJ w c v g f x S V:=⟨a.eI h.sb (λe=>b _ e (.inl rfl)),a.eI h.ib (λe=>b _ e (.inr rfl)),h.gv.trans a (λk j e=>d k e j)⟩
theorem JJ.av{w u b:Y}(h:JJ w u v g f x S V)(a:Ah u u b):JJ w b v g f x S V:=⟨h.sb.av a,h.ib.av a,h.gv.on a⟩
theorem Ed.ge{w:Y}(h:Fg w S V xs)(a:Ed S V j):S<=j/\j<w.heap.size:=by
 rcases a with rfl|a
 . exact⟨Nat.le_refl _,h.eI.lt⟩
 have:=h.lt j a;omega
theorem Vk{a:List Int}(h:∀t∈Bg p f x,t=0->x.op=23)(b:x.op≠23):Mr p f x a=a.take (JV p f x a)++Bg p f x:=by
 unfold Mr;congr 1
 rw[o4 (g:=id) (λt c=>by
  have:t≠0:= λe=>b (h t c e)
  simp[this])]
 simp
theorem Oz(h:x.op=23):AA p f x=[0]:=by unfold AA;rw[lY oM,lY oM,lY oM,lY oM,lY oM,lY oM,lY oM,lY oM,mE oM]
theorem UM(h:x.op=23):Bg p f x=[0,0]:=by unfold Bg;rw[lY oM,lY oM,lY oM,lY oM,lY oM,lY oM,lY oM,lY oM,mE h]
theorem Zy{a:List Int}(h:x.op=23)(g:1<=a.length):Mr p f x a=a.take (a.length-1)++(a.drop (a.length-1)++a.drop (a.length-1)):=by
 have e:JV p f x a= ↑a-1:=by unfold JV;rw[Oz h];rfl
 unfold Mr;rw[e,UM h];congr 1
 obtain⟨y,b⟩:∃y,a[a.length-1]?=K y:=⟨_,an oM⟩;have c:a.drop (a.length-1)=[y]:=by
  obtain⟨d,rfl⟩:=f7.1 b;rw[oG d];congr 1
  exact List.drop_eq_nil_of_le oM
 rw[c,b];rfl
theorem J8(h:x.op≠29):B9 p f x=AA p f x:=by unfold B9;rw[lY h]
theorem Oy(h:x.op=29):B9 p f x=Bn f:=by unfold B9;rw[mE h]
theorem UN(h:x.op=29):Bg p f x=[]:=by unfold Bg;rw[lY oM,lY oM,lY oM,lY oM,lY oM,lY oM,lY oM,lY oM,lY oM,lY oM]
theorem UK(l:List Int):CX l l=true:=by
 induction l with
 |nil=>rfl
 |cons a r b=>simp[CX,b]
theorem Uw{a:List Int}(h: ↑a<(AA p f x).length):Hi p f x a=1:=by unfold Hi;rw[mE h]
theorem Jk{b:List Int}(h:(AA p f x).length<= ↑b)(c:CX (b.drop (JV p f x b)) (AA p f x)=false\/(x.op=27/\AJ f x.a≠3)):Hi p f x b=2:=by unfold Hi;rw[lY oM,mE c]
theorem Sv{b:List Int}(h:(AA p f x).length<= ↑b)(c:CX (b.drop (JV p f x b)) (AA p f x)=true)(d:¬(x.op=27/\AJ f x.a≠3))(g:64<(Mr p f x b).length):Hi p f x b=3:=by unfold Hi;rw[lY oM,lY (λe=>e.elim (λe=>by rw[c]at e;cases e) d),mE g]
theorem Su{b:List Int}(h:(AA p f x).length<= ↑b)(c:CX (b.drop (JV p f x b)) (AA p f x)=true)(d:¬(x.op=27/\AJ f x.a≠3))(g:¬64<(Mr p f x b).length):Hi p f x b=0:=by unfold Hi;rw[lY oM,lY (λe=>e.elim (λe=>by rw[c]at e;cases e) d),lY g]
theorem Lz{w:Y}{f g j:J}(h:Ay w b #[a0,a,c,d,e,f,g,j] t):w b=K a0/\w ⟨b,1,M⟩=K a/\w ⟨b,2,M⟩=K c/\w ⟨b,3,M⟩=K d/\w ⟨b,4,M⟩=K e/\w ⟨b,5,M⟩=K f/\w ⟨b,6,M⟩=K g/\w ⟨b,7,M⟩=K j:=⟨h.cell 0,h.cell 1,h.cell 2,h.cell 3,h.cell 4,h.cell 5,h.cell 6,h.cell 7⟩
theorem Py(c:p.small)(d:AV p f x):(B9 p f x).length<=1048576:=by
 unfold B9;split
 . unfold Bn;split<;>simp
 unfold AA;by_cases h:x.op=28
 . obtain⟨q,fq,b,a⟩:=d.callee h;rw[lY oM,lY oM,lY oM,lY oM,lY oM,lY oM,lY oM,lY oM,lY oM,lY oM,mE h,b,lV,a];exact(c.func fq (lP a)).1
 repeat' split
 all_goals first|contradiction|simp
theorem Sm (v:VP)(p:MP)(g:VF)(f:MF)(x:MI)(S:Nat)(V:J)(d:List Int)(w0 w:Y)(bB:p.small)(bx:AY p 0)(hs:f.small)(hP:Eb w0 v p)(hr:FD w0 g f)(hx:AV p f x)(bJ: ↑w0<=S)(hb:Ah w0 w0 w)(aW:Fg w S V d)(hl:d.length<=1048576):
 Ai Aq 247 #[An #[v.r,v.k,v.f,v.t,g.p,f.cu,g.l,g.c],.pointer S,An #[x.op,x.a,x.b,x.c]] w λe w'=>e=Am (Cd p f x d)/\ChT w S V (Cd p f x d) (D9 p f x d) w':=by
 obtain⟨I,L,F,G,N,O,f1,f3,rfl⟩:=hP.sl;obtain⟨z,A,B,C,D,E,rfl⟩:=GU hr;have H:=Aw (lN bB (lN bx (lN hs (lN hP (lN hr (lN hx (lN bJ (lN hb (lN aW hl)))))))));have E0:Ae (JJ w (Ac (Ac w (Ak #[Z I p.az L,Z F p.b8 G,Z f1 p.aC f3,Z N p.bO O,Z z f.aP A,f.cu,Z B f.aB C,Z D f.aU E] 109)) (Ak #[x.op,x.a,x.b,x.c] 25)) ⟨Z I p.az L,Z F p.b8 G,Z f1 p.aC f3,Z N p.bO O⟩ ⟨Z z f.aP A,Z B f.aB C,Z D f.aU E⟩ f x S V/\Fg (Ac (Ac w (Ak #[Z I p.az L,Z F p.b8 G,Z f1 p.aC f3,Z N p.bO O,Z z f.aP A,f.cu,Z B f.aB C,Z D f.aU E] 109)) (Ak #[x.op,x.a,x.b,x.c] 25)) S V d):=by have h2:=Im.of w ⟨Z I p.az L,Z F p.b8 G,Z f1 p.aC f3,Z N p.bO O⟩ ⟨Z z f.aP A,Z B f.aB C,Z D f.aU E⟩ f x.op x.a x.b x.c;exact⟨⟨h2.sb,h2.ib,DT.of h2.cq⟩,aW.av h2.cq⟩
 clear bB bx hs hP hr hx bJ hb aW hl;generalize p.az.length=nr at H E0⊢;generalize p.b8.length=nk at H E0⊢;generalize p.aC.length=nf at H E0⊢;generalize p.bO.length=nt at H E0⊢;generalize f.aP.length=np at H E0⊢;generalize f.aB.length=nl at H E0⊢;generalize f.aU.length=nc at H E0⊢;go_enter func247,ntmps247;go_upto_region 1 with fail
 refine Av (λu=>Ae (JJ w u ⟨Z I nr L,Z F nk G,Z f1 nf f3,Z N nt O⟩ ⟨Z z np A,Z B nl C,Z D nc E⟩ f x S V/\Fg u S V d)) E0 ?_
 rintro U E1;clear E0;have au:Ae (∀u,DT (Ed S V) w u->Ah w0 w0 u):= λu hu=>H.2.2.2.2.2.2.2.1.trans (hu.below H.2.2.2.2.2.2.2.1.size (λj hj e=>by have:=(Ed.ge H.2.2.2.2.2.2.2.2.1 e).1;have:=H.2.2.2.2.2.2.1;omega))
 obtain⟨s0,s1,s2,s3,s4,s5,s6,s7⟩:=Lz E1.1.sb;obtain⟨i0,i1,i2,i3⟩:=Cv E1.1.ib;go_wp2_with fail;refine(OA ⟨Z I nr L,Z F nk G,Z f1 nf f3,Z N nt O⟩ p ⟨Z z np A,Z B nl C,Z D nc E⟩ f x U H.1 H.2.1.parts.1.1 H.2.2.1 (H.2.2.2.1.av (au.o U E1.1.gv) lR) (H.2.2.2.2.1.av (au.o U E1.1.gv) lR) H.2.2.2.2.2.1).mono ?_;rintro e u1 ⟨st,rfl,aq,b1⟩;obtain⟨ta,tc,rfl⟩:=aq.aD;have aG:=Aw (Py H.1 H.2.2.2.2.2.1);have T:=Aw (lN (E1.1.av b1) (lN (E1.2.av b1) aq));clear aq b1 E1 s0 s1 s2 s3 s4 s5 s6 s7 i0 i1 i2 i3;clear U;generalize bH:B9 p f x=h at aG T⊢;have aF:=Aw bH;clear bH;obtain⟨i0,i1,i2,i3⟩:=Cv T.1.ib;go_upto_region 2 with fail
 go_cut [22] (λs wx=>∃bb:Bool,s=Ao bb/\Ae (bb=true↔(x.op=29/\d≠h))/\Ae (JJ w wx ⟨Z I nr L,Z F nk G,Z f1 nf f3,Z N nt O⟩ ⟨Z z np A,Z B nl C,Z D nc E⟩ f x S V/\Fg wx S V d/\Rd wx 1 (Z ta h tc) h (Ad At h)))
 case first=>
  by_cases q:x.op=29
  . (have bV:(x.op==29)=true:=by simpa using q);have aQ:=Aw q;clear q;go_wp2_with fail;refine(L8 S V (Z ta h tc) d h u1 T.2.1 T.2.2 H.2.2.2.2.2.2.2.2.2 aG).mono ?_;rintro e u2 ⟨⟨b2,rfl,bf⟩,aJ⟩;have y:=Aw (lN (T.1.av aJ) (lN (T.2.1.av aJ) (T.2.2.av aJ lR)));have aX:=Aw bf;clear bf aJ T i0 i1 i2 i3;cases b2
    . go_wp2_with fail;go_meet;exact⟨true,rfl,⟨λ_=>⟨aQ, λe=>(by have:=aX.2 e;cases this)⟩, λ_=>rfl⟩,y⟩
    go_wp2_with fail;go_meet;exact⟨false,rfl,⟨λe=>(by cases e), λe=>absurd (aX.1 (by first|rfl|trivial)) e.2⟩,y⟩
  have bV:(x.op==29)=false:=by simpa using q
  have aQ:=Aw q;clear q;go_wp2_with fail;go_meet;exact⟨false,rfl,⟨λe=>(by cases e), λe=>absurd e.1 aQ.o⟩,T⟩
 case rest =>
  obtain⟨bb,rfl,aS,y⟩:=hcut;clear T i0 i1 i2 i3;obtain⟨W2,ce⟩:∃W,W=wc:=⟨_,rfl⟩;subst ce;cases bb
  case true=>(have n:Ae (Cd p f x d=5):=by have h1:=aS.1 rfl;show Cd p f x d=5;unfold Cd;rw[mE h1.1,lY (λe=>h1.2 (by rw[<-aF,Oy h1.1];exact e))]);go_wp2_with fail;go_ret;exact⟨by rw[n];rfl,y.1.gv, λe=>absurd (n.symm.trans e) dC⟩
  case false =>
   (have HB:Ae (x.op=29->d=h):= λe=>mr λe2=>by have:=aS.2 ⟨e,e2⟩;cases this);clear aS;go_wp2_with fail;refine(XQ S V (Z ta h tc) d h W2 y.2.1 y.2.2 H.2.2.2.2.2.2.2.2.2 aG).mono ?_;rintro e u3 ⟨V2,cc,rfl,cI⟩;rcases cI with⟨bt,rfl,aH⟩|⟨aI,aj,rfl,aH⟩|⟨aI,aj,rfl,⟨V1,bG,bu⟩,aM,bj⟩
   . (have n:Ae (Cd p f x d=1):=by show Cd p f x d=1;(have m:x.op≠29:= λe=>by have:=HB.o e;subst this;omega);unfold Cd;rw[lY m];exact Uw (by rw[<-J8 m,aF];exact bt));have E4:=Aw (y.1.gv.on aH);clear bt aH y;go_wp2_with fail;go_ret;exact⟨by rw[n];rfl,E4, λe=>absurd (n.symm.trans e) dC⟩
   . (have n:Ae (Cd p f x d=2):=by show Cd p f x d=2;(have m:x.op≠29:= λe=>by have:=HB.o e;subst this;rw[pG,List.drop_zero,UK]at aj;cases aj);unfold Cd;rw[lY m];(have X:AA p f x=h:=by rw[<-J8 m,aF]);exact Jk (by rw[X];exact aI) (.inl (by unfold JV;rw[X];exact aj)));have E4:=Aw (y.1.gv.on aH);clear aI aj aH y;go_wp2_with fail;go_ret;exact⟨by rw[n];rfl,E4, λe=>absurd (n.symm.trans e) dC⟩
   . obtain ⟨va,vc,bS⟩:=AF aM;subst bS;have bZ:=y.2.1.eI.lt;have cJ:S<w.heap.size:=H.2.2.2.2.2.2.2.2.1.eI.lt;have E4:=Aw (lN (y.1.step bj (λk e _=>.inl e) (λk e e2=>oM)) (lN bG (lN bu (Rd.eP aM))));have aZ:Ae (BR (Z va h vc)):=by
      rcases Bf aM with⟨e,_⟩|⟨g',c',e⟩
      . exact .inl e
      exact .inr ⟨_,_,_,e⟩
     have ae:=Aw (lN aI aj);clear aI aj bG bu aM bj y bZ;clear W2;obtain⟨s0,s1,s2,s3,s4,s5,s6,s7⟩:=Lz E4.1.sb;obtain⟨i0,i1,i2,i3⟩:=Cv E4.1.ib;go_wp2_with fail;refine(Hp ⟨Z I nr L,Z F nk G,Z f1 nf f3,Z N nt O⟩ p ⟨Z z np A,Z B nl C,Z D nc E⟩ f x.op x.a x.b x.c u3 H.2.2.1 (H.2.2.2.1.av (au.o u3 E4.1.gv) lR) (H.2.2.2.2.1.av (au.o u3 E4.1.gv) lR) (λe=>H.2.2.2.2.2.1.local oM)).mono ?_;rintro e u4 ⟨⟨b4,rfl,bg⟩,aK⟩;have E5:=Aw (lN (E4.1.av aK) (lN (E4.2.1.av aK) (lN E4.2.2.1 (E4.2.2.2.av aK lR))));have aR:=Aw bg;clear bg aK E4 s0 s1 s2 s3 s4 s5 s6 s7 i0 i1 i2 i3;clear u3;(have ai:Ae (x.op≠29->AA p f x=h):= λe=>by rw[<-J8 e,aF]);cases b4
     . have n:Ae (Cd p f x d=2):=by
        show Cd p f x d=2;have h1:x.op=27/\AJ f x.a≠3:=mr λe=>by have:=aR.2 e;cases this
        have m:x.op≠29:=oM;unfold Cd;rw[lY m];exact Jk (by rw[ai.o m];exact ae.1) (.inr h1)
       go_wp2_with fail;go_ret;exact⟨by rw[n];rfl,E5.1.gv, λe=>absurd (n.symm.trans e) dC⟩
     . have HG:Ae (¬(x.op=27/\AJ f x.a≠3)):=aR.1 (by first|rfl|trivial)
       clear aR;obtain⟨s0,s1,s2,s3,s4,s5,s6,s7⟩:=Lz E5.1.sb;obtain⟨i0,i1,i2,i3⟩:=Cv E5.1.ib;go_wp2_with fail;refine(Oa ⟨Z I nr L,Z F nk G,Z f1 nf f3,Z N nt O⟩ p ⟨Z z np A,Z B nl C,Z D nc E⟩ f x u4 H.1 H.2.1.parts.1.1 H.2.2.1 (H.2.2.2.1.av (au.o u4 E5.1.gv) lR) (H.2.2.2.2.1.av (au.o u4 E5.1.gv) lR) H.2.2.2.2.2.1).mono ?_;rintro e u5 ⟨gt,rfl,aq,b5⟩;obtain⟨ga,gc,rfl⟩:=aq.aD;have P:=Aw (lN (E5.1.av b5) (lN (E5.2.1.av b5) (lN E5.2.2.1 (lN (E5.2.2.2.av b5 lR) aq))));clear aq b5 E5 s0 s1 s2 s3 s4 s5 s6 s7 i0 i1 i2 i3;clear u4;have bP:=Aw ((Xb H.2.1 H.2.2.2.2.2.1).2);generalize bq:(Bg p f x).length=gl at P⊢;have aY:=Aw bq;clear bq;obtain⟨i0,i1,i2,i3⟩:=Cv P.1.ib;have aE:Ae ((d.drop (d.length-↑h)).length= ↑h):=by
        show(d.drop (d.length-↑h)).length= ↑h
        rw[m8];have:=ae.1;omega
       (go_upto_if 41 with fail);go_cut [10] (λs wx=>∃a c,∃R:List Int,s=Z a R c/\Ae (D9 p f x d=d.take (d.length-↑h)++R/\R.length<=1048576/\JJ w wx ⟨Z I nr L,Z F nk G,Z f1 nf f3,Z N nt O⟩ ⟨Z z np A,Z B nl C,Z D nc E⟩ f x S V/\Fg wx S V1 (d.take (d.length-↑h))/\Rd wx 1 (Z a R c) R (Ad At R)))
       case first=>
        by_cases ax:x.op=23
        . (have bT:(x.op==23)=true:=by simpa using ax);have aA:=Aw ax;clear ax;have B0:=Al u5 (Ak #[Z va h vc,Z va h vc] 27);have K0:=Ay.new u5 #[Z va h vc,Z va h vc] 27;go_wp2_with fail;refine(QD u5 (Z va h vc) (Z va h vc) (d.drop (d.length-↑h)) (d.drop (d.length-↑h)) _ (by rw[aE];exact aG) (by rw[aE];exact aG) (by rw[aE];exact P.2.2.2.1.av B0 lR) (by rw[aE];exact P.2.2.2.1.av B0 lR) aZ aZ (K0.cell 0) (K0.cell 1)).mono ?_
          rintro e u6 ⟨v6,rfl,aO,b6⟩;have br:(d.drop (d.length-↑h)).length+(d.drop (d.length-↑h)).length=(d.drop (d.length-↑h)++d.drop (d.length-↑h)).length:=by rw[mB]
          rw[br]at aO;obtain⟨a6,c6,e6⟩:=AF aO;subst e6;have B6:=Ar B0 lR b6;have Q:Ae (D9 p f x d=d.take (d.length-↑h)++(d.drop (d.length-↑h)++d.drop (d.length-↑h))/\(d.drop (d.length-↑h)++d.drop (d.length-↑h)).length<=1048576/\JJ w u6 ⟨Z I nr L,Z F nk G,Z f1 nf f3,Z N nt O⟩ ⟨Z z np A,Z B nl C,Z D nc E⟩ f x S V/\Fg u6 S V1 (d.take (d.length-↑h))/\Rd u6 1 (Z a6 (d.drop (d.length-↑h)++d.drop (d.length-↑h)).length c6) (d.drop (d.length-↑h)++d.drop (d.length-↑h)).length (Ad At (d.drop (d.length-↑h)++d.drop (d.length-↑h)))):=by
           (have m:x.op≠29:=by have:=aA.o;omega);(have X:h.length=1:=by rw[<-ai.o m,Oz aA];rfl);refine⟨?_,?_,P.1.av B6,P.2.1.av B6,Rd.eP aO⟩
           . unfold D9;rw[lY m,Zy aA (by have:=ae.1;omega),X]
           rw[mB,aE];omega
          clear aO b6 B6 B0 K0 br P;generalize cH:d.drop (d.length-h.length)++d.drop (d.length-h.length)=R at Q⊢;clear cH;go_wp2_with fail;go_meet;exact⟨_,_,R,rfl,Q⟩
        (have bT:(x.op==23)=false:=by simpa using ax);have aA:=Aw ax;clear ax;have Q:Ae (D9 p f x d=d.take (d.length-↑h)++Bg p f x/\(Bg p f x).length<=1048576/\JJ w u5 ⟨Z I nr L,Z F nk G,Z f1 nf f3,Z N nt O⟩ ⟨Z z np A,Z B nl C,Z D nc E⟩ f x S V/\Fg u5 S V1 (d.take (d.length-↑h))/\Rd u5 1 (Z ga (Bg p f x).length gc) (Bg p f x).length (Ad At (Bg p f x))):=by
         refine⟨?_,by have:=bP.o;omega,P.1,P.2.1,by rw[aY];exact P.2.2.2.2⟩;unfold D9;split
         . rename_i q;have X:d=h:=HB.o q;rw[UN q,X,pG];rfl
         rename_i q;rw[Vk (Xa H.2.1 H.2.2.2.2.2.1) aA];unfold JV;rw[ai.o q]
        go_wp2_with fail;go_meet;exact⟨_,_,Bg p f x,by rw[aY],Q⟩
       case rest=>
        obtain⟨pa,pc,R,rfl,Q⟩:=hcut;clear i0 i1 i2 i3;have aT:=Aw P.2.2.1;clear P;obtain⟨W7,cj⟩:∃W,W=wc:=⟨_,rfl⟩;subst cj;go_wp2_with fail;refine(On S V1 (Z pa R pc) (d.take (d.length-↑h)) R W7 Q.2.2.2.1 Q.2.2.2.2 (by rw[nF];have:=H.2.2.2.2.2.2.2.2.2;omega) Q.2.1).mono ?_
        rintro e u8 ⟨rfl,V',bC,bi,bI⟩;have E8:Ae (JJ w u8 ⟨Z I nr L,Z F nk G,Z f1 nf f3,Z N nt O⟩ ⟨Z z np A,Z B nl C,Z D nc E⟩ f x S V/\Fg u8 S V' (D9 p f x d)/\(V'.ownBlock=V.ownBlock\/∀g,V'.ownBlock=K g-> ↑w<=g)):=by
         refine⟨Q.2.2.1.step bi (λk e _=> ?_) (λk e e2=> ?_),by rw[Q.1];exact bC,?_⟩
         . rcases e with e|e
           . exact .inl e
           exact .inr (by rw[<-aT];exact e)
         . rcases e with e|e
           . omega
           have:=(H.2.2.2.2.2.2.2.2.1.lt k (by rw[<-aT];exact e)).2;omega
         rcases bI with e|e
         . exact .inl (e.trans aT)
         exact .inr λg hg=>mC Q.2.2.1.gv.size (e g hg)
        clear bC bi bI Q;clear W7;go_wp2_with fail;refine(Ft S V' (D9 p f x d) u8 E8.2.1).mono ?_;rintro e u9 ⟨rfl,rfl⟩;(have bQ:Ae (x.op=29->D9 p f x d=[]):= λe=>by unfold D9;rw[mE e]);by_cases aa:64<(D9 p f x d).length
        . (have n:Ae (Cd p f x d=3):=by (have m:x.op≠29:= λe=>by rw[bQ.o e]at aa;simp at aa);(have X:D9 p f x d=Mr p f x d:=by unfold D9;rw[lY m]);rw[X]at aa;show Cd p f x d=3;unfold Cd;rw[lY m];exact Sv (by rw[ai.o m];exact ae.1) (by unfold JV;rw[ai.o m];exact ae.2) HG aa);have bY:(64:Int)<((D9 p f x d).length:Int):=oM;clear aa;go_wp2_with fail;go_ret;exact⟨by rw[n];rfl,E8.1.gv, λe=>absurd (n.symm.trans e) dC⟩
        . have n:Ae (Cd p f x d=0):=by
           show Cd p f x d=0;unfold Cd;split
           . rename_i q;rw[mE];rw[HB.o q,<-aF,Oy q]
           rename_i m;(have X:D9 p f x d=Mr p f x d:=by unfold D9;rw[lY m]);rw[X]at aa;exact Su (by rw[ai.o m];exact ae.1) (by unfold JV;rw[ai.o m];exact ae.2) HG aa
          have bY:¬(64:Int)<((D9 p f x d).length:Int):=oM;clear aa;go_wp2_with fail;go_ret;exact⟨by rw[n];rfl,E8.1.gv, λ_=>⟨V',E8.2.1,E8.2.2⟩⟩
def qf(F:List (List Int×J)):List (J×List Int):=F.map λx=>(x.2,x.1)
structure KP(w:Y)(base:Nat)(s:J)(F:List (List Int×J)):Prop where
 row:Ab w base 27 1 s F (Ad Hy F)
 fg:CO w base (qf F)
theorem CO.lD{w a:Y}{L:List (J×List Int)}(h:CO w base L)(b:Ah w w a):CO a base L:=⟨λx c=>AD (h.own x c) b lR,h.sep⟩
theorem KP.rd{w:Y}{s:J}{F:List (List Int×J)}(h:KP w base s F):OO w s (F.map Prod.fst):=⟨F,rfl,by rw[mQ];exact Rd.eP h.row, λx a=>Rd.eP (h.fg.own (x.2,x.1) (mV.2 ⟨x,a,rfl⟩))⟩
structure LP(w u:Y)(V:J)(ys:List (ML×J×J)):Prop where
 km:Ab u w 65 3 V ys (Ad FV ys)
 fg:CO u w (ys.map λy=>(y.2.2,y.1.a7))
 cq:Ah w w u
theorem LP.av{w u b:Y}(h:LP w u V ys)(a:Ah u u b):LP w b V ys:=⟨AD h.km a lR,h.fg.jA a,Ar h.cq lR a⟩
theorem LP.add{w u c e:Y}{g cap:Nat}{m:ML}(h:LP w u V ys)(f:Ah u u c)(k:Ab c u 2 1 a m.a7 (Ad At m.a7))(n:Ab e w 65 3 (sG g (ys.length+1) cap) (ys.length+1) (Ad FV ys++[iZ m.head,d,a]))(j:c.grownBy e V.ownBlock):LP w e (sG g (ys.length+1) cap) (ys++[(m,d,a)]):=by
 have b:=h.av f;have p:CO c w ((ys++[(m,d,a)]).map λy=>(y.2.2,y.1.a7)):=by have:=h.fg.join f k h.cq.size;simpa using this
 refine⟨?_,p.jr j b.km dC,b.cq.grown j b.cq.size (λi l=>(b.km.lt i l).1)⟩;rw[mB,mT,mW];exact n
theorem Qf{E:Nat->List Nat}{D:Nat->Nat->Bool}{n b:Nat}{S O:List Nat}{m:Nat->Bool}(G:∀b,b<n->∀x∈E b,x<n)(H:b<n)(F:Vs (Bo E n) [b] [] (AP E D n b) S O)(p:∀x,m x=true↔AW E D n b x):((ints (O++[b])).mergeSort λx y=>decide (x<=y))=ints ((List.range n).filter m)/\ ↑O+1<=n:=by
 obtain⟨N,t⟩:=F.told;obtain rfl:O=N:=by simpa using t.o
 have B:∀q,q<n->∀x∈Bo E n q,x<n:= λq _ x d=>((CS E n q x).1 d).1
 have r:∀x∈O,x<n:= λx d=>by obtain⟨q,f,g⟩:=t.from_ x d;exact g.lt B ((Db E D n b q).1 f).1
 have A:b∉O:= λq=>t.fresh b q (nG ..)
 have v:(O++[b]).Nodup:=pH.2 ⟨t.nodup,sP, λa w c s e=>by simp only[lW,lZ,mS]at s;subst s e;exact A w⟩;have u:∀x,x∈O++[b]↔AW E D n b x:= λx=>by
  rw[mA,mK];unfold AW;rw[Or.comm];refine or_congr_right ?_;rw[t.iff x];constructor
  . rintro⟨q,f,g⟩;exact⟨q,f,g.mono λy l e=>l (by rw[e];simp)⟩
  rintro⟨q,f,g⟩;exact⟨q,f,g.mono λy l e=>l (by simpa using e)⟩
 have C:(ints (O++[b])).Nodup:=by unfold ints;refine oj.2 (v.imp λh e=>h oM)
 refine⟨?_,?_⟩
 . refine I8 _ _ (Ou _ C) ?_ λz=> ?_
   . unfold ints;refine oj.2 ((List.Pairwise.filter _ pC).imp λh=>oM)
   rw[(pB _ _).mem_iff];unfold ints;rw[mV,mV];constructor
   . rintro⟨x,j,k⟩;refine⟨x,oP.2 ⟨nN.2 ?_,(p x).2 ((u x).1 j)⟩,k⟩;rcases mA.1 j with q|q
     . exact r x q
     (have:x=b:=by simpa using q);omega
   rintro⟨x,j,k⟩;exact⟨x,(u x).2 ((p x).1 (oP.1 j).2),k⟩
 have:=Hv (O++[b]) n (λx d=>by
  rcases mA.1 d with q|q
  . exact r x q
  have:x=b:=by simpa using q
  omega) v
 rw[mB,mT]at this;omega
theorem UT(G n gF cF gB:Nat)(E:Nat->List Nat)(D r:Nat->Nat->Bool)(v:List (J×List Nat))(w:Y)(hn:n<=1024)(hE:∀b,b<n->∀x∈E b,x<n)(aK:∀b,(E b).length<=2)(hL:∀h x,r h x=true↔AW E D n h x)(h1:w ⟨G,1,M⟩=K (sG gF n cF))(hF:Gb w gF 0 n (Bo E n))(hB:∀x,x<n->∃V,v[x]?=K (V,AP E D n x)/\w ⟨gB,x,M⟩=K V/\Lb w V (AP E D n x)):
 Ai Aq 27 #[.pointer G,sG gB n n] w λe w'=>∃V,e=Am V/\∃ys,LP w w' V ys/\ys.map Prod.fst=Bv E D r n n/\List.Sublist (ys.map λy=>(y.2.1,y.1.back)) (v.map λx=>(x.1,ints x.2)):=by
 obtain⟨k0,hk,br,bt,bu⟩:=nE Ct;obtain⟨l0,hl,aZ,bf,bg⟩:=nE Xh;have H:=Aw (lN hF (lN hE (lN aK (lN hL (lN h1 hB)))));clear hF hE aK hL h1 hB;go_enter func27,ntmps27;go_wp2;go_loopw [5,12] (λV i wr=>∃(b:Nat) (ys:List (ML×J×J)) (a:Option Addr) (c:Nat),b<=n/\i=iZ b/\V=Z a ys c/\ ↑ys<=b/\Ae (LP w wr V ys/\ys.map Prod.fst=Bv E D r n b/\List.Sublist (ys.map λy=>(y.2.1,y.1.back)) ((v.take b).map λx=>(x.1,ints x.2)))) (λ_ i _=>n-(intOf i).toNat)
 case atStart=>exact⟨0,[],M,0,oM,rfl,rfl,sP,⟨mX _ _ _ _,⟨λx P=>(by cases P),List.Pairwise.nil⟩,mP _ _⟩,rfl,sP⟩
 obtain⟨b,ys,al,cl,hb,rfl,rfl,bI,p⟩:=hrel;by_cases aj:b<n
 . have bi:(b:Int)<(n:Int):=oM;obtain⟨VB,q1,q2,q3⟩:=H.2.2.2.2.2 b aj;obtain⟨k,l,rfl⟩:=Rd.aD q3;have HV:=Aw (lN q1 q3);(have aA:Ae ((v.take (b+1)).map (λx=>(x.1,ints x.2))=(v.take b).map (λx=>(x.1,ints x.2))++[(Z k (AP E D n b).length l,ints (AP E D n b))]):=by obtain⟨hl,e⟩:=f7.1 q1;show _=_;rw[mZ hl,e,nS];rfl);(replace q2:=Az p.1.cq q2);(have bB:(AP E D n b).length<=2048:=by have:=NR H.2.2.1 D b n;omega);clear q1 q3;by_cases T:AP E D n b=[]
   . (have aX:(AP E D n b).length=0:=by rw[T];rfl);have Q:Ae (ys.map Prod.fst=Bv E D r n (b+1)/\List.Sublist (ys.map λy=>(y.2.1,y.1.back)) ((v.take (b+1)).map λx=>(x.1,ints x.2))):=by
      refine⟨?_,?_⟩
      . rw[Jw,mE T,nm];exact p.2.1
      rw[aA];exact p.2.2.trans (List.sublist_append_left _ _)
     rw[aX]at q2;go_wp2;go_roundw;(case rel=>exact⟨b+1,ys,al,cl,oM,by go_num,by trivial,oM,p.1,Q.1,Q.2⟩);exact oI
   have bC:0<(AP E D n b).length:=pU.2 T;have bG:(((AP E D n b).length:Int)==0)=false:=oT;have bH:¬((AP E D n b).length:Int)=0:=oM;have f1:=Az p.1.cq H.2.2.2.2.1;have R:=Al wr (Ak #[(b:Int)] 2);have f2:=Az R f1;have F:=Aw (lN (Ar p.1.cq lR R) (lN (((Ay.new wr #[(b:Int)] 2).cell 0):(Ac wr (Ak #[(b:Int)] 2)) wr=K ↑(b:Int)) R))
   clear R;go_wp2_with fail;refine(IB gF 0 cF n (Bo E n) _ (AP E D n b) _ [b] _ hn (λq hq x P=>((CS E n q x).1 P).1) (λq=>by have:=JS H.2.2.1 n q;omega) (H.1.av F.1) (λx P=>((Db E D n b x).1 P).1) oM (HV.2.av F.1) (.inr ⟨b,wr,1,rfl,aj,rfl,F.2.1⟩)).mono ?_;rintro e t ⟨V2,S2,d,rfl,aM,au,b2⟩;obtain⟨a2,c2,rfl⟩:=AF au;obtain⟨aJ,bx⟩:=Qf H.2.1 aj aM (H.2.2.2.1 b);have z:Ae (Kk t wr (Z a2 d c2) d/\Ah wr wr t/\((ints (d++[b])).mergeSort λx y=>decide (x<=y))=ints ((List.range n).filter (r b))):=⟨BG au F.2.2.size,Ar F.2.2 lR b2,aJ⟩
   have S:=Al t (Ak #[(b:Int)] 2);have L:Ae (Ab (Ac t (Ak #[(b:Int)] 2)) wr 2 1 (Z a2 d c2) d (nv d)/\ ↑wr<=(Ac t (Ak #[(b:Int)] 2)).heap.size/\Ah wr wr (Ac t (Ak #[(b:Int)] 2))):=⟨z.1.av S,mC z.2.1.size S.size,Ar z.2.1 lR S⟩
   clear aM au b2 aJ F f1 f2 S;go_wp2_with (first
    |(at_builtin;refine wpList_append_lies _ rfl _ _ 27 rfl wr 2 k0 (iZ 0) 1 8 underlying27 hk br bt bu rfl dC _ d (nv d) rfl L.1 t 1 1 [(b:Int)] rfl rfl (Fw t (b:Int)) (λu O=>by simp at O;subst O;rfl) oM (by simp[maxLen];omega) oM L.2.1 _ rfl ?_;intro g f X W U aT aq;have I:Ae (Ab X wr 2 1 (sG g (d.length+1) f) (d.length+1) (nv (d++[b]))/\Ah wr wr X):=⟨by rw[Mk];exact W,L.2.2.grown U L.2.2.size (λi hi=>(z.1.lt i hi).1)⟩;clear W U aT aq)
    |fail)
   have N:Ae (Ab X wr 2 1 (sG g (ints (d++[b])).length f) (ints (d++[b])).length (Ad At (ints (d++[b])))/\(ints (d++[b])).length= ↑d+1):=by
    have e:(ints (d++[b])).length= ↑d+1:=by rw[A4,mB,mT]
    rw[e,<-Er];exact⟨I.1,rfl⟩
   have ae:=X9 g f wr (ints (d++[b])) X (by rw[N.2];omega) N.1;rw[N.2,z.2.2]at ae;refine ae.mono ?_;rintro e s ⟨rfl,aH,g4⟩;have aG:((List.range n).filter (r b)).length= ↑d+1:=by have:=congrArg List.length z.2.2;rw[(pB _ _).length_eq,N.2,A4]at this;exact this.symm
   have aE:Ae (Ab s wr 2 1 (sG g (d.length+1) f) (ints ((List.range n).filter (r b))).length (Ad At (ints ((List.range n).filter (r b))))/\Ah wr wr s):=by refine⟨by rw[A4,aG];exact aH,I.2.grown g4 I.2.size (λj hj=>by cases hj;exact(AZ I.1).1)⟩
   clear aH g4 ae N I L z aG;have bN:=Al s (Ak #[(b:Int),Z k (AP E D n b).length l,sG g (d.length+1) f] 65);have aa:Ae (LP w (Ac s (Ak #[(b:Int),Z k (AP E D n b).length l,sG g (d.length+1) f] 65)) (Z al ys cl) ys/\Ah wr wr (Ac s (Ak #[(b:Int),Z k (AP E D n b).length l,sG g (d.length+1) f] 65))/\ ↑w<=(Ac s (Ak #[(b:Int),Z k (AP E D n b).length l,sG g (d.length+1) f] 65)).heap.size):=by have ai:=Ar aE.2 lR bN;exact⟨p.1.av ai,ai,mC p.1.cq.size ai.size⟩
   (have aQ:Ae (∀j u,[(iZ (b:Int):J),Z k (AP E D n b).length l,sG g (d.length+1) f][j]?=K u->(Ac s (Ak #[(b:Int),Z k (AP E D n b).length l,sG g (d.length+1) f] 65)) ((⟨s,0,M⟩:Addr).add j)=K u):= λj u hj=>World.news_of_block (Ay.new s #[(b:Int),Z k (AP E D n b).length l,sG g (d.length+1) f] 65) j u hj);(have aO:Ae (∀B A C,C.ownsRow w 65 3 (sG B (ys.length+1) A) (ys.length+1) (ys.flatMap FV++[iZ (b:Int),Z k (AP E D n b).length l,sG g (d.length+1) f])->(Ac s (Ak #[iZ (b:Int),Z k (AP E D n b).length l,sG g (d.length+1) f] 65)).grownBy C (Z al ys cl).ownBlock->LP w C (sG B (ys.length+1) A) (ys++[((⟨(b:Int),ints (AP E D n b),ints ((List.range n).filter (r b))⟩:ML),(Z k (AP E D n b).length l:J),(sG g (d.length+1) f:J))])):= λB A C W U=>p.1.add (m:=⟨(b:Int),ints (AP E D n b),ints ((List.range n).filter (r b))⟩) aa.2.1 (AD aE.1 bN lR) W U);have ax:Ae ((ys++[((⟨(b:Int),ints (AP E D n b),ints ((List.range n).filter (r b))⟩:ML),(Z k (AP E D n b).length l:J),(sG g (d.length+1) f:J))]).map Prod.fst=Bv E D r n (b+1)/\List.Sublist ((ys++[((⟨(b:Int),ints (AP E D n b),ints ((List.range n).filter (r b))⟩:ML),(Z k (AP E D n b).length l:J),(sG g (d.length+1) f:J))]).map λy=>(y.2.1,y.1.back)) ((v.take (b+1)).map λx=>(x.1,ints x.2))):=by
    refine⟨?_,?_⟩
    . rw[Jw,lY T,nS,p.2.1];rfl
    rw[aA,nS];exact p.2.2.append (List.Sublist.refl _)
   have bj: ↑ys+1<=maxLen:=oX
   have aY:(ys.length+1)*56<=140737488355328:=oM;(have bq:∀u∈[(iZ (b:Int):J),Z k (AP E D n b).length l,sG g (d.length+1) f],u.oneCell'=true:= λu O=>by simp at O;rcases O with rfl|rfl|rfl<;>rfl);go_wp2_with (at_builtin;refine wpList_append_lies _ rfl _ _ 59 rfl w 65 l0 (An #[iZ 0,sN,sN]) 3 56 underlying59 hl aZ bf bg rfl dC _ ys (ys.flatMap FV) rfl aa.1.km s 1 1 [(b:Int),Z k (AP E D n b).length l,sG g (d.length+1) f] rfl rfl aQ bq Nat.one_pos bj aY aa.2.2 _ rfl ?_;intro B A C aI aF aW aq;have aR:Ae (LP w C (sG B (ys.length+1) A) (ys++[((⟨(b:Int),ints (AP E D n b),ints ((List.range n).filter (r b))⟩:ML),(Z k (AP E D n b).length l:J),(sG g (d.length+1) f:J))])):=aO.o B A C aI aF;clear aI aF aW aq);go_roundw;(case rel=>exact⟨b+1,_,K B,A,oM,by go_num,by rw[mB,mT],by rw[mB,mT];omega,aR,ax.1,ax.2⟩);exact oI
 have aS:b=n:=oM;have bi:¬(b:Int)<(n:Int):=oM;rw[aS]at p;have Q:=Aw (p.2.2.trans (List.Sublist.map _ (List.take_sublist _ _)));go_wp2;go_ret;exact⟨_,rfl,ys,p.1,p.2.1,Q⟩
theorem Oe(S:Nat)(V:J)(xs:List Int)(w:Y)(h:Fg w S V xs)(E:xs.length<=1048576):Ai Aq 246 #[.pointer S] w λe k=>∃a c,e=Am (Z a xs c)/\Hf k w (Z a xs c) xs/\Ah w w k:=by
 obtain⟨v,r,G,H,I⟩:=nE Ct;obtain⟨z,c1,rfl⟩:=AF h.own;have c0:=h.eI.cell 0;simp only[lQ,lO]at c0;have f:=Rd.eP h.own;have HO:Ae (Ab w w 2 1 (Z M 0 0) 0 []):=mX _ _ _ _;cases z with
 | none=>
   have t:xs.length=0:=by
    rcases f.2 with⟨l,_⟩|⟨g,o,c,b,_⟩
    . exact l
    cases b
   have F:xs=[]:=mG t;subst F;(have D:∀ty,(Builtin.append_ #[27,27] ty #[sN,Z M 0 c1]).run Aq w=.ok sN w:= λty=>Fo (P:=Aq) w 27 ty 2 v 1 underlying27 r _ _ _ HO c1);clear h f t;rw[nT]at c0⊢;go_enter func246,ntmps246;go_wp2_with (at_builtin;refine Lib.wpList_append_run _ rfl _ _ _ _ rfl _ _ rfl rfl _ _ (D _) ?_);go_ret;exact⟨_,_,rfl,HO,mP _ _⟩
 | some ad=>
   have y:Ae (∀j u,(Ad At xs)[j]?=K u->w (ad.add j)=K u):= λj u d=>by
    rcases f.2 with⟨l,_⟩|⟨g,o,c,b,B⟩
    . have:xs=[]:=mG l;subst this;simp at d
    simp only[lU,lX]at b;obtain⟨rfl,_⟩:=b;rw[Cq];exact B j u d
   clear h f;generalize s:xs.length=m at E c0⊢;have HM:=Aw s;clear s;go_enter func246,ntmps246;go_wp2_with (at_builtin;refine wpList_append_own _ rfl _ _ 27 rfl w 2 v (iZ 0) 1 8 underlying27 r G H I rfl dC _ 0 [] rfl HO ad m c1 (Ad At xs) rfl ?c1 y.o (Cn _) ?c4 ?c5 lR ?_);(case c1=>rw[AX At 1 AE,HM]);(case c4=>unfold maxLen;omega);(case c5=>omega);intro v' k n q C;(obtain⟨A,c2,rfl⟩:∃a c,v'=Z a m c:=by have:=(Rd.eP n).aD;simpa using this);have p:=Aw (lN ((by unfold Hf;rw[HM];simpa using n):Hf k w (Z A m c2) xs) ((mP _ _).grown q lR (λj d=>by cases d)));clear n q C;go_wp2;go_ret;exact⟨_,_,rfl,p.1,p.2⟩
structure Gg(w u:Y)(v:VP)(g:VF)(f:MF)(bv:J)(TB MB GS n B N:Nat)(RS:List J)(s:WI):Prop where
 tb:Ay u TB #[v.r,v.k,v.f,v.t,g.p,f.cu,g.l,g.c,bv,.map (K MB),sG GS n n,s.d] 331
 mp:∃cnt D,AQ u MB cnt D/\cnt<=N/\∀b:Nat,Go.Maps.has D (.int Af (b:Int))=s.c b
 sa:Ab u w 27 1 (Z GS n n) n RS
 sl: ↑RS=n
 rs:∀(j:Nat) (V:J),RS[j]?=K V->Hf u B V (s.r j)
 cq:Ah w w u
 lo: ↑w<=TB/\ ↑w<=MB/\ ↑w<=GS
 ne:TB≠MB/\TB≠GS/\MB≠GS/\TB<B/\MB<B/\GS<B
 sz:B<=u.heap.size
 dl:s.d<=64
 rl:∀j,(s.r j).length<=64
 ap:∀(i j:Nat) (V W:J),i≠j->RS[i]?=K V->RS[j]?=K W->∀g,V.ownBlock=K g->W.ownBlock≠K g
theorem AQ.gv{u c:Y}{a:Nat}{D:DataW Unit}(h:AQ u b a D)(j:DT R u c)(l:¬R b):AQ c b a D:=by have k:=oL h;obtain⟨e,d,g,F,m,f⟩:=h;exact⟨e,d,(j.block b k l).trans g,F,m,f⟩
def RQ(a:List J)(R:Nat->Prop):Prop:=∀(j:Nat) (V:J),a[j]?=K V->∀g,V.ownBlock=K g->¬R g
theorem Gg.gv{w u q:Y}{bv:J}{p MB m n B N:Nat}(h:Gg w u v g f bv p MB m n B N l s)(a:DT R u q)(c:∀k,R k->B<=k)(t:RQ l R):Gg w q v g f bv p MB m n B N l s:=by
 obtain⟨I,L,O,E,P,Q⟩:=h.ne;obtain⟨r,D,A,y,z⟩:=h.mp;obtain⟨C,G,H⟩:=h.lo;refine⟨a.eI h.tb (λe=>by have:=c _ e;omega),⟨r,D,A.gv a (λe=>by have:=c _ e;omega),y,z⟩,a.own h.sa (λb d e=> ?_),h.sl, λj V e=>a.own (h.rs j V e) (λb d=>t j V e b d),?_,h.lo,h.ne,mC h.sz a.size,h.dl,h.rl,h.ap⟩
 . simp only[Value.ownBlock,lX]at d;subst d;have:=c _ e;omega
 exact h.cq.trans (a.below (mC (mC C (oq E)) h.sz) (λk F e=>by have:=c _ e;omega))
theorem Gg.av{w u d:Y}{bv:J}{c MB a n B N:Nat}{b:List J}(h:Gg w u v g f bv c MB a n B N b s)(j:Ah u.heap.size u d):Gg w d v g f bv c MB a n B N b s:=h.gv (R:= λ_=>False) (DT.of j) (λ_ e=>e.elim) (λ_ _ _ _ _ e=>e)
theorem Gg.jz{w u:Y}{bv:J}{y MB q n B N:Nat}(h:Gg w u v g f bv y MB q n B N l s){t:List Int}(G:Hf u B V t)(b:t.length<=64)(C:∀(i:Nat) (W:J),l[i]?=K W->∀g,V.ownBlock=K g->W.ownBlock≠K g):Gg w (Aa u ⟨q,j,M⟩ V) v g f bv y MB q n B N (l.set j V) ⟨s.c,ET s.r j t,s.d⟩:=by
 obtain⟨T,U,P,n4,n5,n6⟩:=h.ne;obtain⟨F,D,O,H,L⟩:=h.mp;obtain⟨Q,R,S⟩:=h.lo;refine⟨h.tb.other oS V,⟨F,D,World.ownsMap.setCell O (by simp only[];exact P) V,H,L⟩,(h.sa.stored j V).1,by rw[mF];exact h.sl, λi W e=> ?_,h.cq.setCell oS V,h.lo,h.ne,by rw[QR];exact h.sz,h.dl, λi=> ?_, λi k X z E p a=> ?_⟩
 . simp only[ET];by_cases m:i=j
   . subst m;(have b:i<l.length:=by have:=(f7.1 e).1;rw[mF]at this;exact this);rw[nK b]at e;(cases e);rw[mE rfl];exact G.set oS V
   rw[ni (λe=>m e.symm)]at e;rw[lY m];exact(h.rs i W e).set oS V
 . simp only[ET];split
   . exact b
   exact h.rl i
 by_cases m:i=j
 . subst m;(have b:i<l.length:=by have:=(f7.1 p).1;rw[mF]at this;exact this);rw[nK b]at p;(cases p);rw[ni E]at a;exact C k z a
 rw[ni (λe=>m e.symm)]at p;by_cases A:k=j
 . subst A;(have b:k<l.length:=by have:=(f7.1 a).1;rw[mF]at this;exact this);rw[nK b]at a;(cases a);exact λg I e=>C i X p g e I
 rw[ni (λe=>A e.symm)]at a;exact h.ap i k X z E p a
theorem Gg.jp{w u:Y}{bv:J}{a MB b n B N:Nat}{j:List J}(h:Gg w u v g f bv a MB b n B N j s)(d:Nat)(p:d<=64):Gg w (Aa u ⟨a,11,M⟩ (.int Af (d:Int))) v g f bv a MB b n B N j ⟨s.c,s.r,d⟩:=by obtain⟨C,E,F,G,H,I⟩:=h.ne;obtain⟨l,D,t,m,q⟩:=h.mp;obtain⟨y,z,A⟩:=h.lo;have k:=h.tb.set 11 d;simp only[mO,mi,mh]at k;exact⟨k,⟨l,D,World.ownsMap.setCell t oS _,m,q⟩,mR h.sa (by simp[Value.ownBlock];omega) _,h.sl, λi W e=>(h.rs i W e).set oS _,h.cq.setCell oS _,h.lo,h.ne,by rw[QR];exact h.sz,p,h.rl,h.ap⟩
theorem Gg.put{w u m:Y}{bv:J}{z MB q n B N:Nat}{y:List J}(h:Gg w u v g f bv z MB q n B N y s){t l:Nat}{D:DataW Unit}(E:AQ u MB l D)(O:l<=N)(C:∀b:Nat,Go.Maps.has D (.int Af (b:Int))=s.c b)(F:AQ m MB (l+1) (D.put (.int Af (t:Int)) (.agg [])))(A:u.grownBy m (K MB)):Gg w m v g f bv z MB q n B (N+1) y ⟨Ja s.c t,s.r,s.d⟩:=by
 obtain⟨H,S,T,I,U,W⟩:=h.ne;obtain⟨G,Q,R⟩:=h.lo;have a:DT (λk=>k=MB) u m:=(DT.refl _ _).grown A (λk _ e=>by cases e;rfl);refine⟨a.eI h.tb H,⟨l+1,_,F,oM, λb=> ?_⟩,a.own h.sa (λb p e=> ?_),h.sl, λj V e=>a.own (h.rs j V e) (λb p L=> ?_),h.cq.trans (a.below (mC (mC G (oq I)) h.sz) (λk P e=>oM)),h.lo,h.ne,mC h.sz a.size,h.dl,h.rl,h.ap⟩
 . rw[Ep D (oD E),C b];simp only[Ja];by_cases e:b=t
   . subst e;simp
   have:¬((b:Int)=(t:Int)):=oM;simp[e,this]
 . simp only[Value.ownBlock,lX]at p;omega
 have:=(h.rs j V e).lt b p;omega
structure P6(w:Y)(v:VP)(p:MP)(g:VF)(f:MF):Prop where
 ps:p.small
 pf:AY p 0
 fs:f.small
 rp:Eb w v p
 rf:FD w g f
 c1:1<=f.aU.length
 cl:f.aU.length<=1024
 pl:Ge f.aU
 ok:∀x∈f.aU,AV p f x
 last:∀(k:Nat) x,f.aU[k]?=K x->IY x=true->k+1< ↑f.aU
theorem Fg.j8{u:Y}(h:Fg u S V xs){a:Addr}(b:a.block<S)(x:J):Fg (u.setCell a x) S V xs:=⟨h.eI.other oM x,mY h.own oM x⟩
theorem RQ.set{a:List J}(h:RQ a R)(d:∀g,V.ownBlock=K g->¬R g):RQ (a.set j V) R:= λi W e g c=>by
 by_cases b:i=j
 . subst b;(have f:i<a.length:=by have:=(f7.1 e).1;rw[mF]at this;exact this);rw[nK f]at e;(cases e);exact d g c
 rw[ni (λe=>b e.symm)]at e;exact h i W e g c
def sp(w u:Y)(v:VP)(g:VF)(f:MF)(bv:J)(y l j n B N:Nat)(m:List J)(s:WI)(S:Nat)(V:J)(h:List Int)(t a:Nat)(e:Ending)(b:Y):Prop:=(s.c t=true/\∃q,e=Am (.bool q)/\(q=true↔h=s.r a)/\Ah u u b)\/(s.c t=false/\e=Am true/\∃p,Gg w b v g f bv y l j n B (N+1) (m.set a p) ⟨Ja s.c t,ET s.r a h,s.d⟩/\Fg b S V h/\RQ (m.set a p) (Ed S V)/\DT (λk=>k=l\/k=j) u b)
theorem QC(w u:Y)(v:VP)(g:VF)(f:MF)(bv:J)(A y q n B N:Nat)(l:List J)(s:WI)(z:List MB)(S:Nat)(V:J)(j:List Int)(t a:Nat)(m:MB)(h:Gg w u v g f bv A y q n B N l s)(T:KQ w bv z)(hm:z[t]?=K m)(aS:m.cz=(a:Int))(ha:a<n)(hn:n<=1024)(bt:z.length<=1024)(hN:N<=4096)(aX:Fg u S V j)(hS:B<=S)(aK:RQ l (Ed S V))(bj:j.length<=64):
 Ai Aq 249 #[.pointer A,t,.pointer S] u (sp w u v g f bv A y q n B N l s S V j t a):=by
 obtain⟨ba,bc,rfl⟩:∃a c,bv=Z a z c:=by obtain⟨_,_,h2,_⟩:=T;exact h2.aD
 obtain⟨gb,U,xa,xc,ev,x0,x1,x2,bi⟩:=Ty T hm;subst ev;rw[aS,<-h.cq.cell (lT x0)]at x0;have bB:t<z.length:=(f7.1 hm).1;have bx:(t:Int)<(z:Int):=oM;have br:(a:Int)<(n:Int):=oM;have aY:Fa (t:Int):=Dh oM;have H:=Aw (lN h (lN aX (lN hS aK)));obtain⟨aa,D,aW,aQ,aR⟩:=h.mp;have HM:=Aw (lN aW (lN aQ aR));have c8:=h.tb.cell 8;have Q:=h.tb.cell 9;simp only[lQ,lO,lS]at c8 Q;clear x1 x2 bi aW aQ aR h aX hS aK hm aS T;go_enter func249,ntmps249;go_wp2_with fail;refine(Jq y aa D (t:Int) u aY HM.1).mono ?_;rintro e E ⟨rfl,P⟩;rw[HM.2.2 t];have p:Ae (Gg w E v g f (sO gb U z bc) A y q n B N l s/\Fg E S V j/\B<=S/\RQ l (Ed S V)):=⟨H.1.av P,H.2.1.av P,H.2.2⟩
 have aG:=Aw P;have aH:Ae (DT (λk=>k=y\/k=q) u E):=DT.of P
 have O:Ae (AQ E y aa D/\aa<=N/\∀b:Nat,Go.Maps.has D (.int Af (b:Int))=s.c b):=⟨HM.1.av P,HM.2⟩
 clear P HM H x0 c8 Q;have Q:=p.1.tb.cell 9;have au:=p.1.tb.cell 10;simp only[lQ,lO,lS]at Q au;obtain⟨V0,aE⟩:∃V,l[a]?=K V:=⟨_,an (by rw[p.1.sl];exact ha)⟩;have ai:=p.1.rs a V0 aE;have bu:=p.1.rl a;obtain⟨va,vc,bf⟩:=AF ai;subst bf;have ax:=p.1.sa.cellAt a oM;rw[aE]at ax;cases hc:s.c t with
 | true=>have HR:=Aw ai;clear ai;go_wp2_with fail;refine(L8 S V (Z va (s.r a).length vc) j (s.r a) E p.2.1 (Rd.eP HR) oM oM).mono ?_;rintro e G ⟨⟨bb,rfl,aM⟩,b2⟩;have HE:=Aw (lN aM (lN (Ar aG lR b2) hc));clear aM b2 Q au ax;go_wp2_with fail;go_ret;exact .inl ⟨HE.2.2,bb,rfl,HE.1,HE.2.1⟩
 | false=>
   have HC:=Aw hc;clear ai aE hc;(go_upto_region 5 with(go_at_call 59;refine(Da y aa E 1 D (t:Int) _ aY (by have:=O.2.1;omega) sP (by have:=p.1.ne;have:=p.1.sz;omega) (O.1.av (Al _ _))).mono ?_;rintro e G ⟨rfl,aT,ae⟩));have H2:Ae (Gg w G v g f (sO gb U z bc) A y q n B (N+1) l ⟨Ja s.c t,s.r,s.d⟩/\Fg G S V j/\B<=S/\RQ l (Ed S V)):=by have hA:=Al E (Ak #[t] 2);obtain⟨n1,n2,n3,n4,n5,n6⟩:=p.1.ne;have hS:=p.2.2.1;have aO:DT (λk=>k=y) (Ac E (Ak #[t] 2)) G:=(DT.refl _ _).grown ae (λk _ e=>by cases e;rfl);have aF:=p.2.1.av hA;exact⟨(p.1.av hA).put (O.1.av hA) O.2.1 O.2.2 aT ae,⟨aO.eI aF.eI oM,aO.own aF.own (λb T e=>by have:=(aF.lt b T).1;omega)⟩,p.2.2⟩
   have aI:=Aw (((aH.on (Al E (Ak #[t] 2))).grown ae (λk _ e=>by cases e;exact .inl rfl)).on (As _));clear aT ae O p aG aH Q au ax;have F:Ae (Gg w G.drew v g f (sO gb U z bc) A y q n B (N+1) l ⟨Ja s.c t,s.r,s.d⟩/\Fg G.drew S V j/\B<=S/\RQ l (Ed S V)):=⟨H2.1.av (As _),H2.2.1.av (As _),H2.2.2⟩
   have bo:G.drew ⟨A,10,M⟩=K (sG q n n):=F.1.tb.cell 10;refine wp_region_held_drew (S:= λw'=>w' ⟨A,10,M⟩=K (sG q n n)) kR bo (λaA=> ?_);refine AU 0 ?_;refine AU 1 ?_;refine AU 2 ?_;refine AU 3 ?_;refine AU 4 ?_;refine AU 5 ?_;refine DO 6 ?_;intro KC R;go_simp;refine(Oe S V j G.drew F.2.1 oM).mono ?_;rintro e X ⟨I,L,rfl,aj,b3⟩;have C:Ae (Gg w X v g f (sO gb U z bc) A y q n B (N+1) l ⟨Ja s.c t,s.r,s.d⟩/\Fg X S V j/\B<=S/\RQ l (Ed S V)):=⟨F.1.av b3,F.2.1.av b3,F.2.2⟩
   have aq:Ae (Hf X B (Z I j L) j/\(∀(i:Nat) (W:J),l[i]?=K W->∀g,(Z I j L).ownBlock=K g->W.ownBlock≠K g)/\∀g,(Z I j L).ownBlock=K g->¬Ed S V g):=by
    refine⟨Bm aj F.1.sz, λi W e g hg e2=> ?_, λg hg e2=> ?_⟩
    . have h1:=(aj.lt g hg).1;have h2:=((F.1.rs i W e).lt g e2).2;omega
    have h1:=(aj.lt g hg).1;have h2:=(Ed.ge F.2.1 e2).2;omega
   have aZ:=Aw (aI.on b3);clear aj b3 aI;go_simp;refine R.o _ _ (by have:=C.1.tb.cell 10;exact this) (λaA=> ?_);clear R KC;refine AU 7 ?_;refine DO 8 ?_;intro KC R;have aJ:=C.1.sa.cellAt a oM;have bq:=C.1.sa.frozenAt a;obtain⟨V1,bg⟩:∃V,l[a]?=K V:=⟨_,an (by rw[C.1.sl];exact ha)⟩;rw[bg]at aJ;have H4:Ae (Gg w (Aa X ⟨q,a,M⟩ (Z I j L)) v g f (Z (K ⟨gb,U,M⟩) z bc) A y q n B (N+1) (l.set a (Z I j L)) ⟨Ja s.c t,ET s.r a j,s.d⟩/\Fg (Aa X ⟨q,a,M⟩ (Z I j L)) S V j/\RQ (l.set a (Z I j L)) (Ed S V)):=⟨C.1.jz aq.1 bj aq.2.1,C.2.1.j8 (by have:=C.1.ne;have:=C.2.2.1;simp only[];omega) _,C.2.2.2.set aq.2.2⟩
   go_simp;refine R.o _ _ (by have:=H4.1.tb.cell 10;exact this) (λaA=> ?_);clear R KC;refine wpAnyH_done kR ?_ _;clear aA bo aJ bq;go_wp2_with fail;go_ret;exact .inr ⟨HC,rfl,_,H4.1,H4.2.1,H4.2.2,aZ.setCell (.inl (.inr rfl)) _⟩
end Go.Proofs.YtkgohaigebcgoaaGreatDoor
