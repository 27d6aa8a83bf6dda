import Derived.Test.YtjnglocdoljgkaaGreatSw29
import Derived.Test.YtjnglocdoljgkaaGreatSw28
namespace Go.Proofs.YtjnglocdoljgkaaGreat
open Go.ChangeShapes Go.WideShapes Go.ChangeAt Go.RowKit
set_option linter.unusedVariables false
open Option renaming some → K,none → M
open Go renaming Value → J,World → Y,TypeId → Af
open Go.Value renaming slice → Z,int → Ac
open Go.RowKit renaming Below → Ad
variable {C A:List (J×List Int)}{e:Af}{xs:List J}{g base B k gt ct gr cr c':Nat}{a a':Option Addr}{α:Type}{x:MT}{b:List (ML×J×J)}{r:List Int}{V:J}{E:Nat->List Nat}{S O:List Nat}{I:Nat->Int}
section
variable {w u:Y} {s:Ci} {p:Int} {v:VP} {F:List (List Int×J)} {cs:List MC} {G1 G2:List (MF×VF)} {ts:List MT} {D:List AB}
theorem Bs.jd{C:List AB}{k n c g:Nat}(h:Bs w u s p ((⟨e,k,sG g n c,n,xs⟩:AB)::C))(i:Nat)(x:J):Bs w (u.setCell ⟨g,i,M⟩ x) s p ((⟨e,k,sG g n c,n,xs.set i x⟩:AB)::C)/\u.frozen? ⟨g,i,M⟩=false:=by have a:u.ownsRow w e k (sG g n c) n xs:=h.sep.own _ (ln ..);have b:=(a.lt g rfl).1;refine⟨⟨?_,h.gG.setCell b _⟩,mR a i⟩;exact h.sep.put (A:=[]) (r:=⟨e,k,sG g n c,n,xs⟩) (xs.set i x) (a.stored i x).1 (Fl (⟨rfl,rfl,rfl,Nat.le_refl _, λ_ _ _=>rfl⟩:u.grownBy u (K g)) i x)
theorem Bs.ins{f:MF}{j b:J}{c:Nat}(h:Bs w u s p (Al v F cs (G1++(f,(⟨j,b,sG g f.ch c⟩:VF))::G2) ts D))(i:Nat)(x:J)(a:List MI)(y:a.length= ↑f.ch)(z:(f.ch.flatMap MI.cells).set i x=a.flatMap MI.cells):Bs w (u.setCell ⟨g,i,none⟩ x) s p (Al v F cs (G1++((⟨f.d5,f.gz,f.en,a⟩:MF),(⟨j,b,sG g f.ch c⟩:VF))::G2) ts D)/\u.frozen? ⟨g,i,none⟩=false:=by
 have h1:=h.perm (M:=BI (sG g f.ch c) f.ch::(Cc v.r F::BN F++(Di v.k cs::(BC v.f (G1++(f,(⟨j,b,sG g f.ch c⟩:VF))::G2)::(Br G1++(A7 j f.d5::A7 b f.en::(Br G2++(CN v.t ts::D)))))))) (Bl λinst q=>by simp only[Al,Br,Cn,lJ,kX,li,lp,mJ,lF];omega);have h2:=Bs.jd (e:=60) (k:=4) (n:=f.ch) (c:=c) (g:=g) (xs:=f.ch.flatMap MI.cells) h1 i x;refine⟨?_,h2.2⟩;have l:=h2.1;rw[z]at l;have e:BC v.f (G1++(f,(⟨j,b,sG g f.ch c⟩:VF))::G2)=BC v.f (G1++((⟨f.d5,f.gz,f.en,a⟩:MF),(⟨j,b,sG g f.ch c⟩:VF))::G2):=by simp[BC,AX]
 rw[e]at l;have m:(⟨60,4,sG g f.ch c,f.ch,a.flatMap MI.cells⟩:AB)=BI (sG g f.ch c) a:=by simp[BI,y]
 rw[m]at l;refine l.perm (Bl λinst q=> ?_);simp only[Al,Br,Cn,lJ,kX,li,lp,mJ,lF];omega
theorem Bs.im{f:MF}{a:VF}{gf cf:Nat}(h:Bs w u s p (Al v F cs (G1++(f,a)::G2) ts D))(g:v.f=sG gf (G1++(f,a)::G2).length cf)(z:Int):Bs w (u.setCell ⟨gf,G1.length*4+1,none⟩ (iZ z)) s p (Al v F cs (G1++((⟨f.d5,z,f.en,f.ch⟩:MF),a)::G2) ts D)/\u.frozen? ⟨gf,G1.length*4+1,none⟩=false:=by
 have h1:=h.perm (M:=BC v.f (G1++(f,a)::G2)::(Cc v.r F::BN F++(Di v.k cs::(Br (G1++(f,a)::G2)++(CN v.t ts::D))))) (Bl λinst q=>by simp only[Al,li,lp,lF];omega);have e0:BC v.f (G1++(f,a)::G2)=⟨51,4,sG gf (G1++(f,a)::G2).length cf,(G1++(f,a)::G2).length,(G1++(f,a)::G2).flatMap AX⟩:=by simp[BC,g]
 rw[e0]at h1;have h2:=Bs.jd h1 (G1.length*4+1) (iZ z);refine⟨?_,h2.2⟩;have b:=h2.1;have j:((G1++(f,a)::G2).flatMap AX).set (G1.length*4+1) (iZ z)=(G1++((⟨f.d5,z,f.en,f.ch⟩:MF),a)::G2).flatMap AX:=by
  have l:(G1.flatMap AX).length= ↑G1*4:=Au AX 4 Aq G1
  rw[lJ,lJ,nG _ _ oM,l];congr 1
  rw[show G1.length*4+1-↑G1*4=1 from oM]
  simp[AX]
 have i:(⟨51,4,sG gf (G1++(f,a)::G2).length cf,(G1++(f,a)::G2).length,((G1++(f,a)::G2).flatMap AX).set (G1.length*4+1) (iZ z)⟩:AB)=BC v.f (G1++((⟨f.d5,z,f.en,f.ch⟩:MF),a)::G2):=by rw[j];simp[BC,g]
 rw[i]at b;refine b.perm (Bl λinst q=> ?_);simp only[Al,Br,Cn,lJ,kX,li,lp,lF];omega
end
section
variable {n n':Nat} {R R':List (List Int)} {cs cs':List MC} {fs:List MF} {ts ts':List MT} {G1 G2:List (MF×VF)} {f f':MF} {vf vf':VF}
theorem PB.jY(h:PB n ⟨R,cs,(G1++(f,vf)::G2).map Prod.fst,ts⟩)(b:n<=n')(j: ↑f'.d5<=n'/\ ↑f'.en<=n'/\ ↑f'.ch<=n')(l:f'.wf):PB n' ⟨R,cs,(G1++(f',vf')::G2).map Prod.fst,ts⟩:=by
 have i:∀g∈(G1++(f',vf')::G2).map Prod.fst,g=f'\/g∈(G1++(f,vf)::G2).map Prod.fst:= λg a=>by
  simp only[mL,mo,kS,lA]at a⊢;rcases a with h|h|h
  . exact .inr (.inl h)
  . exact .inl h
  exact .inr (.inr (.inr h))
 refine⟨?_,h.rl, λr k=>kT (h.rg r k) b,kT h.cl b,kT h.tl b, λg a=> ?_,⟨h.wf.a7,h.wf.aC, λg a=> ?_,h.wf.dr⟩⟩
 . have:=h.fl;simp only[kW,kJ,lh]at this⊢;omega
 . rcases i g a with rfl|e
   . exact j
   have:=h.fs g e;omega
 rcases i g a with rfl|e
 . exact l
 exact h.wf.cC g e
theorem PB.kj(h:PB n ⟨R,cs,fs,ts⟩)(e:n<=n')(b: ↑ts'<=n')(f:∀x∈ts',x.wf):PB n' ⟨R,cs,fs,ts'⟩:=by have a:=h.mono e;exact⟨a.fl,a.rl,a.rg,a.cl,b,a.fs,⟨a.wf.a7,a.wf.aC,a.wf.cC,f⟩⟩
theorem PB.cs1(h:PB n ⟨R,cs,fs,ts⟩)(a: ↑cs'<=n)(b:∀x∈cs',x.wf):PB n ⟨R,cs',fs,ts⟩:=⟨h.fl,h.rl,h.rg,a,h.tl,h.fs,⟨h.wf.a7,b,h.wf.cC,h.wf.dr⟩⟩
theorem PB.rs1(h:PB n ⟨R,cs,fs,ts⟩)(e:n<=n')(b:R'.length<=3)(f:∀r∈R', ↑r<=n')(g:∀r∈R',∀z∈r,CO z):PB n' ⟨R',cs,fs,ts⟩:=by have a:=h.mono e;exact⟨a.fl,b,f,a.cl,a.tl,a.fs,⟨g,a.wf.aC,a.wf.cC,a.wf.dr⟩⟩
end
theorem Rd.back{u:Y}{k n m c:Nat}{o:Nat}(h:Rd u k (Z (K ⟨g,o,M⟩) n c) n xs)(p:m<=n)(c':Nat):Rd u k (Z (K ⟨g,o+m*k,M⟩) (n-m) c') (n-m) (xs.drop (m*k)):=by
 have i:=h.1;refine⟨by rw[mO,i,<-Nat.sub_mul],?_⟩;rcases h.2 with⟨e0,_⟩|⟨l,s,c1,a,f⟩
 . exact .inl ⟨oM,K ⟨g,o+m*k,M⟩,c',by rw[show n-m=0 from oM]⟩
 simp only[jc,kK,mA,mg]at a;obtain⟨⟨rfl,rfl⟩,_⟩:=a;refine .inr ⟨g,o+m*k,c',rfl, λj x b=> ?_⟩;rw[ny]at b;have:=f _ _ b;rwa [<-Nat.add_assoc]at this
theorem Fg{G:List α}{q:Nat}{y:α}(h:G[q]?=K y):∃a b,G=a++y::b/\a.length=q:=by obtain⟨f,e⟩:=iV.1 h;exact⟨G.take q,G.drop (q+1),by rw[<-e,List.getElem_cons_drop,mx],by rw[lj];omega⟩
theorem CO.wrap(z:Int):CO (IntKind.i64.wrap z):=wf_wrap _ z
theorem Ta.wrap(z:Int):Ta (IntKind.u32.wrap z):=wf_wrap _ z
theorem Hu(f:α->List J)(m:Nat)(a:∀y,(f y).length=m)(A B:List α)(j:Nat)(y y':α)(u:J)(e:j<m)(b:f y'=(f y).set j u):((A++y::B).flatMap f).set (↑A*m+j) u=(A++y'::B).flatMap f:=by have g:=Au f m a A;rw[lJ,lJ,nG _ _ oM,g,nI,kX,kX,List.set_append_left _ _ (by rw[a];exact e),b]
theorem I8(f:α->List J)(m:Nat)(e:∀y,(f y).length=m)(xs:List α)(k:Nat):(xs.take k).flatMap f=(xs.flatMap f).take (k*m)/\(xs.drop k).flatMap f=(xs.flatMap f).drop (k*m):=by
 induction xs generalizing k with
 |nil=>simp
 | cons x r b=>
   cases k with
   |zero=>simp
   | succ k=>have a:=e x;rw[List.take_succ_cons,List.drop_succ_cons,kX,kX,(b k).1,(b k).2,List.take_append,List.drop_append,lu (l:=f x) (by rw[a,oN];omega),nU (l:=f x) (by rw[a,oN];omega),a,show(k+1)*m-m=k*m by rw[oN];omega];exact⟨rfl,rfl⟩
theorem SE{w f:Y}{s:J}{k n:Nat}(h:w.ownsRow base e k s n xs)(l:∀g,s.ownBlock=K g->base<=g->g< ↑w->f.heap[g]?=w.heap[g]?):f.ownsRow base e k s n xs:=by
 refine⟨h.1,?_⟩;rcases h.2 with h|⟨g,cap,i,rfl,a,b,j⟩
 . exact .inl h
 refine .inr ⟨g,cap,i,rfl,a,?_,j⟩;rw[l g rfl a (lC.1 b).1];exact b
theorem Ew.rdH{w:Y}{v:VP}{F:List (List Int×J)}{cs:List MC}{G:List (MF×VF)}{ts:List MT}{B:List AB}(h:Ew w base (Al v F cs G ts B)):S4 w v ⟨F.map Prod.fst,cs,G.map Prod.fst,ts⟩ F G:=by
 have h1:=Rd.gM (h.own (Cc v.r F) (by simp[Al]));have j:=Rd.gM (h.own (BC v.f G) (by simp[Al]));have e:∀x∈F,A7 x.2 x.1∈Al v F cs G ts B:= λx a=>by have:A7 x.2 x.1∈BN F:=lK.2 ⟨x,a,rfl⟩;simp[Al,this]
 have b:∀x∈G,∀r∈Cn x,r∈Al v F cs G ts B:= λx a r m=>by have:r∈Br G:=mN.2 ⟨x,a,m⟩;simp[Al,this]
 have g:= λx a=>h.own (A7 x.2.p x.1.d5) (b x a _ (by simp[Cn]))
 have i:= λx a=>h.own (A7 x.2.l x.1.en) (b x a _ (by simp[Cn]))
 exact⟨by simpa[Cc]using h1, λx a=>Rd.gM (h.own (A7 x.2 x.1) (e x a)),Rd.gM (h.own (Di v.k cs) (by simp[Al])),by simpa[BC]using j, λx a=>⟨Rd.gM (g x a),Rd.gM (i x a),Rd.gM (h.own (BI x.2.c x.1.ch) (b x a _ (by simp[Cn])))⟩,Rd.gM (h.own (CN v.t ts) (by simp[Al])), λx a=>DR (h.own (A7 x.2 x.1) (e x a)), λx a=>⟨GE (g x a),GE (i x a)⟩⟩
structure Be(u U:Y)(s:Ci)(p:Int)(P RB n:Nat)(v:VP):Prop where
 bl:Bs u U s p [gb P v,gb RB vN]
 tl:∃x F G,F.map Prod.fst=x.a7/\G.map Prod.fst=x.cC/\(∀u2:Y,(∀k, ↑u<=k->k< ↑U->k≠RB->u2.heap[k]?=U.heap[k]?)->S4 u2 v x F G)/\PB n x
section
variable {u U:Y} {s:Ci} {p p':Int} {P RB n n':Nat} {v:VP} {F:List (List Int×J)} {cs:List MC} {G:List (MF×VF)} {ts:List MT} {D:List AB}
theorem Bs.rdB(h:Bs u U s p (Al v F cs G ts D))(f:gb RB vN∈D):∀a:Y,(∀k, ↑u<=k->k< ↑U->k≠RB->a.heap[k]?=U.heap[k]?)->S4 a v ⟨F.map Prod.fst,cs,G.map Prod.fst,ts⟩ F G:= λa j=>by have h1:=h.sep;rw[De]at h1;have h2:=mP.1 h1.sep;exact Ew.rdH (base:=u) (B:=[]) ⟨λr b=>SE (h1.own r (kS.2 (.inl b))) λg i l m=>j g l m λe=>h2.2.2 r b _ f g i (by rw[e];rfl),h2.1⟩
theorem Be.of(h:Bs u U s p (Al v F cs G ts [gb P v,gb RB vN]))(a:PB n ⟨F.map Prod.fst,cs,G.map Prod.fst,ts⟩):Be u U s p P RB n v:=⟨h.sub (by rw[De];exact List.sublist_append_right _ _),⟨_,F,G,rfl,rfl,h.rdB sP,a⟩⟩
theorem Be.mono(h:Be u U s p P RB n v)(e:n<=n'):Be u U s p P RB n' v:=by obtain⟨x,F,G,h1,h2,a,b⟩:=h.tl;exact⟨h.bl,x,F,G,h1,h2,a,b.mono e⟩
theorem Be.jn(h:Be u U s p P RB n v):∃a l c1 a2 y c2 b z c3 a4 A c4,v=⟨Z a l c1,Z a2 y c2,Z b z c3,Z a4 A c4⟩:=by
 obtain⟨x,F,G,h1,h2,j,B⟩:=h.tl;have q:=j U λ_ _ _ _=>rfl
 obtain⟨v1,v2,v3,C⟩:=v;obtain⟨a,c1,g⟩:=q.r.fu;obtain⟨a2,c2,i⟩:=q.k.fu;obtain⟨b,c3,e3⟩:=q.f.fu;obtain⟨a4,c4,e4⟩:=q.t.fu;simp only[]at g i e3 e4;exact⟨a,_,c1,a2,_,c2,b,_,c3,a4,_,c4,by rw[g,i,e3,e4]⟩
theorem Be.fin{m:Int}(h:Be u U s p' P RB n v)(h1:p<=p')(h2:p'<=p+m){e:Ending}(q:e=.returned (.agg #[v.r,v.k,v.f,v.t])):JU s p m n u e ((((U.setCell RB v.r).setCell ⟨RB,1,M⟩ v.k).setCell ⟨RB,2,M⟩ v.f).setCell ⟨RB,3,M⟩ v.t):=by obtain⟨x,F,G,g,i,j,l⟩:=h.tl;have z:Bs u U s p' ([gb P v]++gb RB vN::[]):=h.bl;have b:=(((z.set 0 oM v.r).set 1 oM v.k).set 2 oM v.f).set 3 oM v.t;refine⟨v,x,q,⟨F,G,g,i, λC y=>j C λk A B a=> ?_⟩,l,p',h1,h2,b.gG.src,b.gG.ij⟩;rw[y k A (by simpa using B),lZ _ _ _ _ (λe=>a e),lZ _ _ _ _ (λe=>a e),lZ _ _ _ _ (λe=>a e),lZ _ _ _ _ (λe=>a e)]
theorem Be.rb(h:Be u U s p P RB n v):((U.cell? P=K v.r/\U.cell? ⟨P,1,M⟩=K v.k/\U.cell? ⟨P,2,M⟩=K v.f/\U.cell? ⟨P,3,M⟩=K v.t)/\(U.cell? RB=K (Z M 0 0)/\U.cell? ⟨RB,1,M⟩=K (Z M 0 0)/\U.cell? ⟨RB,2,M⟩=K (Z M 0 0)/\U.cell? ⟨RB,3,M⟩=K (Z M 0 0))/\(U.frozen? RB=false/\U.frozen? ⟨RB,1,M⟩=false/\U.frozen? ⟨RB,2,M⟩=false/\U.frozen? ⟨RB,3,M⟩=false))/\Bs u ((((U.setCell RB v.r).setCell ⟨RB,1,M⟩ v.k).setCell ⟨RB,2,M⟩ v.f).setCell ⟨RB,3,M⟩ v.t) s p [gb P v,gb RB v]:=by have a:Bs u U s p ([gb P v]++gb RB vN::[]):=h.bl;have r:=h.bl.four (P:=RB) (v:=vN) sP;exact⟨⟨(h.bl.four (P:=P) (v:=v) sP).1,r.1,r.2⟩,(((a.set 0 oM v.r).set 1 oM v.k).set 2 oM v.f).set 3 oM v.t⟩
end
theorem VH{x:MI}(h:x.wf)(i:Nat){z:Int}(a:CO z):(x.iL i z).wf:=by
 obtain⟨h1,h2,b,e⟩:=h;unfold MI.iL;split
 . exact⟨a,h2,b,e⟩
 . exact⟨h1,a,b,e⟩
 . exact⟨h1,h2,a,e⟩
 exact⟨h1,h2,b,a⟩
section
variable {w u U U':Y} {s:Ci} {p:Int} {P RB n:Nat} {v:VP} {F:List (List Int×J)} {cs:List MC} {G G1 G2:List (MF×VF)} {ts:List MT} {D R:List AB} {f:MF} {y y':MF×VF} {pv lv cv:J} {gf cf gc cc q at_ len i j:Nat} {z:Int}
theorem Ng(h:Bs u U s p (Al v F cs G ts D))(g:PB n ⟨F.map Prod.fst,cs,G.map Prod.fst,ts⟩)(y:G[q]?=K (f,(⟨pv,lv,sG gc len cc⟩:VF)))(m:f.ch.length=len)(j:at_<len)(l:i<4)(A:CO z):(∃b f',Bs u (U.setCell ⟨gc,at_*4+i,M⟩ (iZ z)) s p (Al v F cs b ts D)/\PB n ⟨F.map Prod.fst,cs,b.map Prod.fst,ts⟩/\b[q]?=K (f',(⟨pv,lv,sG gc len cc⟩:VF))/\f'.ch.length=len)/\U.frozen? ⟨gc,at_*4+i,M⟩=false:=by
 obtain⟨G1,G2,rfl,rfl⟩:=Fg y;subst m;have r:=an j;have k:f∈(G1++(f,(⟨pv,lv,sG gc f.ch cc⟩:VF))::G2).map Prod.fst:=sP;have a:=g.wf.cC f k;obtain⟨h1,h2⟩:=h.ins (at_*4+i) (iZ z) (f.ch.set at_ (f.ch[at_].iL i z)) (mU ..) (Jz r l);refine⟨⟨_,⟨f.d5,f.gz,f.en,f.ch.set at_ (f.ch[at_].iL i z)⟩,h1,g.jY lR (by simpa using g.fs f k) ⟨a.d5,a.gz,a.en, λx t=> ?_⟩,sP,sP⟩,h2⟩;rcases m7 t with e|e
 . exact a.ch x e
 rw[e];exact VH (a.ch _ (mW j)) i A
theorem IY{v:VP}(h:Bs u U s p (Al v F cs G ts [gb P v,gb RB vN]))(e:PB n ⟨F.map Prod.fst,cs,G.map Prod.fst,ts⟩)(k:G[q]?=K (f,(⟨pv,lv,sG gc len cc⟩:VF)))(j: ↑f.ch=len)(b:at_<len)(g:i<4)(l:CO z):Be u (U.setCell ⟨gc,at_*4+i,M⟩ (iZ z)) s p P RB (n+1) v/\U.frozen? ⟨gc,at_*4+i,M⟩=false:=by obtain⟨⟨m,f',h1,h2,_⟩,a⟩:=Ng h e k j b g l;exact⟨(Be.of h1 h2).mono oM,a⟩
theorem Kg{v:VP}(h:Bs u U s p (Al v F cs G ts [gb P v,gb RB vN]))(C:PB n ⟨F.map Prod.fst,cs,G.map Prod.fst,ts⟩)(E:G[q]?=K (f,(⟨pv,lv,sG gc len cc⟩:VF)))(D: ↑f.ch=len)(a:at_<len){b e g z3:Int}(A:CO b)(h1:CO e)(h2:CO g)(B:CO z3):Be u ((((U.setCell ⟨gc,at_*4,M⟩ (iZ b)).setCell ⟨gc,at_*4+1,M⟩ (iZ e)).setCell ⟨gc,at_*4+2,M⟩ (iZ g)).setCell ⟨gc,at_*4+3,M⟩ (iZ z3)) s p P RB (n+1) v:=by obtain⟨⟨H,f',j,k,l,m⟩,L⟩:=Ng (i:=0) h C E D a oM A;obtain⟨⟨G2,f2,c1,c2,c3,c4⟩,c5⟩:=Ng (i:=1) j k l m a oM h1;obtain⟨⟨I,f3,r,t,y,z⟩,N⟩:=Ng (i:=2) c1 c2 c3 c4 a oM h2;exact(IY (i:=3) r t y z a oM B).1
theorem C6{x:MI}(h:Bs u U s p (Al v F cs G ts D))(l:G[q]?=K (f,(⟨pv,lv,sG gc len cc⟩:VF)))(k: ↑f.ch=len)(g:f.ch[at_]?=K x):(U.cell? ⟨gc,at_*4,M⟩=K (iZ x.op)/\U.cell? ⟨gc,at_*4+1,M⟩=K (iZ x.a)/\U.cell? ⟨gc,at_*4+2,M⟩=K (iZ x.b)/\U.cell? ⟨gc,at_*4+3,M⟩=K (iZ x.c))/\(U.frozen? ⟨gc,at_*4,M⟩=false/\U.frozen? ⟨gc,at_*4+1,M⟩=false/\U.frozen? ⟨gc,at_*4+2,M⟩=false/\U.frozen? ⟨gc,at_*4+3,M⟩=false):=by
 subst k;have n:=(iV.1 g).1;have m:BI (sG gc f.ch cc) f.ch∈Al v F cs G ts D:=by have:BI (sG gc f.ch cc) f.ch∈Br G:=mN.2 ⟨_,i8 l,by simp[Cn]⟩;simp[Al,this]
 have o:U.ownsRow u 60 4 (sG gc f.ch cc) f.ch (f.ch.flatMap MI.cells):=h.sep.own _ m;have e:∀j,j<4->U.cell? ⟨gc,at_*4+j,M⟩=x.cells[j]?:= λj i=>by rw[lV o (at_*4+j) oM,Cr MI.cells 4 MI.gH f.ch at_ j _ g i]
 exact⟨⟨e 0 oM,e 1 oM,e 2 oM,e 3 oM⟩,mR o _,mR o _,mR o _,mR o _⟩
theorem Te(h:Bs u U s p (Al v F cs G ts D))(b:G[q]?=K (f,(⟨pv,lv,cv⟩:VF))):U.ownsRow u 2 1 lv f.en (f.en.flatMap Ah)/\U.ownsRow u 60 4 cv f.ch (f.ch.flatMap MI.cells):=by
 have m:∀r∈Cn (f,(⟨pv,lv,cv⟩:VF)),r∈Al v F cs G ts D:= λr a=>by have:r∈Br G:=mN.2 ⟨_,i8 b,a⟩;simp[Al,this]
 exact⟨h.sep.own _ (m (A7 lv f.en) (by simp[Cn])),h.sep.own _ (m (BI cv f.ch) (by simp[Cn]))⟩
theorem Mj(h:Bs u U s p (Al v F cs G ts D))(a:G[q]?=K (f,(⟨pv,lv,cv⟩:VF)))(b:v.f=sG gf G cf):U.cell? ⟨gf,q*4+3,M⟩=K cv/\U.cell? ⟨gf,q*4+2,M⟩=K lv:=by have e:=(iV.1 a).1;have o:=h.gY.2.2.2.1;rw[b]at o;exact⟨by rw[lV o (q*4+3) oM,Cr AX 4 Aq G q 3 _ a oM];rfl,by rw[lV o (q*4+2) oM,Cr AX 4 Aq G q 2 _ a oM];rfl⟩
theorem Rb(h:Bs u U s p (Al v F cs G ts D))(b:G[q]?=K (f,(⟨pv,lv,cv⟩:VF)))(a:v.f=sG gf G cf):U.cell? ⟨gf,q*4+2,M⟩=K lv:=(Mj h b a).2
theorem IZ(h:Bs u U s p (Al v F cs G ts D))(f:ts[k]?=K x)(a:v.t=sG gt ts ct):(U.cell? ⟨gt,k*4+1,M⟩=K (iZ x.head)/\U.cell? ⟨gt,k*4+2,M⟩=K (iZ x.gQ)/\U.cell? ⟨gt,k*4+3,M⟩=K (Ac .u32 x.init))/\(U.frozen? ⟨gt,k*4+1,M⟩=false/\U.frozen? ⟨gt,k*4+2,M⟩=false/\U.frozen? ⟨gt,k*4+3,M⟩=false):=by obtain⟨g,c,e,_,h1,h2,b⟩:=h.ct f;rw[a]at e;simp only[jc,kK,mA,mg,lO]at e;obtain⟨rfl,rfl⟩:=e;have o:=h.gY.2.2.2.2;rw[a]at o;exact⟨⟨h1,h2,b⟩,mR o _,mR o _,mR o _⟩
theorem VW{x:MC}(h:Bs u U s p (Al v F cs G ts D))(b:cs[k]?=K x)(a:v.k=sG gt cs ct):(U.cell? ⟨gt,k*2,M⟩=K (iZ x.type)/\U.cell? ⟨gt,k*2+1,M⟩=K (Ac .u32 x.word))/\(U.frozen? ⟨gt,k*2,M⟩=false/\U.frozen? ⟨gt,k*2+1,M⟩=false):=by obtain⟨g,c,e,h1,h2⟩:=h.kt b;rw[a]at e;simp only[jc,kK,mA,mg,lO]at e;obtain⟨rfl,rfl⟩:=e;have o:=h.gY.2.2.1;rw[a]at o;exact⟨⟨h1,h2⟩,mR o _,mR o _⟩
theorem N6{a:J}(h:Bs u U s p (Al v F cs G ts D))(b:F[k]?=K (r,a))(f:v.r=sG gr F cr):U.cell? ⟨gr,k,M⟩=K a/\U.ownsRow u 2 1 a r (r.flatMap Ah):=by have o:=h.gY.2.1;rw[f]at o;have g:=(iV.1 b).1;have e:=Cr AZ 1 (λ_=>rfl) F k 0 (r,a) b oM;rw[lr,kZ]at e;refine⟨by rw[lV o k oM,e];rfl,h.sep.own (A7 a r) ?_⟩;have:A7 a r∈BN F:=lK.2 ⟨_,i8 b,rfl⟩;simp[Al,this]
theorem Bs.fhd(h:Bs w u s p (BC v.f (G1++y::G2)::R))(a:v.f=sG gf (G1++y::G2).length cf)(k:j<4)(x:J)(i:AX y'=(AX y).set j x):Bs w (u.setCell ⟨gf, ↑G1*4+j,M⟩ x) s p (BC v.f (G1++y'::G2)::R)/\u.frozen? ⟨gf, ↑G1*4+j,M⟩=false:=by
 have e0:BC v.f (G1++y::G2)=⟨51,4,sG gf (G1++y::G2).length cf,(G1++y::G2).length,(G1++y::G2).flatMap AX⟩:=by simp[BC,a]
 rw[e0]at h;have h2:=Bs.jd h (↑G1*4+j) x
 rw[Hu AX 4 Aq G1 G2 j y y' x k i]at h2;refine⟨?_,h2.2⟩;have g:=h2.1;have b:(⟨51,4,sG gf (G1++y::G2).length cf,(G1++y::G2).length,(G1++y'::G2).flatMap AX⟩:AB)=BC v.f (G1++y'::G2):=by simp[BC,a]
 rwa [b]at g
theorem XJ{v:VP}(h:Bs u U s p (Al v F cs G ts [gb P v,gb RB vN]))(a:PB n ⟨F.map Prod.fst,cs,G.map Prod.fst,ts⟩)(i:G[q]?=K y)(g:v.f=sG gf G cf)(j:CO z):Be u (U.setCell ⟨gf,q*4+1,M⟩ (iZ z)) s p P RB (n+1) v/\U.frozen? ⟨gf,q*4+1,M⟩=false:=by obtain⟨G1,G2,rfl,rfl⟩:=Fg i;obtain⟨f,k⟩:=y;have e:f∈(G1++(f,k)::G2).map Prod.fst:=sP;have b:=a.wf.cC f e;obtain⟨h1,h2⟩:=h.im g z;exact⟨(Be.of h1 (a.jY lR (by simpa using a.fs f e) ⟨b.d5,j,b.en,b.ch⟩)).mono oM,h2⟩
theorem XH{v:VP}(h:Bs u U s p (Al v F cs G ts [gb P v,gb RB vN]))(b:PB n ⟨F.map Prod.fst,cs,G.map Prod.fst,ts⟩)(m:G[q]?=K (f,(⟨pv,lv,cv⟩:VF)))(l:v.f=sG gf G cf)(L:CO z)(H:U'.ownsRow u 2 1 V (f.en.length+1) (f.en.flatMap Ah++[iZ z]))(E:U.grownBy U' lv.ownBlock)(D:V.ownBlock=lv.ownBlock\/V.ownBlock=K U):Be u (U'.setCell ⟨gf,q*4+2,none⟩ V) s p P RB (n+1) v/\U'.frozen? ⟨gf,q*4+2,none⟩=false/\U'.cell? ⟨gf,q*4+2,none⟩=K lv:=by
 have N:=(iV.1 m).1;obtain⟨G1,G2,rfl,rfl⟩:=Fg m;have i:f∈(G1++(f,(⟨pv,lv,cv⟩:VF))::G2).map Prod.fst:=sP;have a:=b.wf.cC f i;have O:=b.fs f i;have h1:=h.perm (M:=A7 lv f.en::(BC v.f (G1++(f,(⟨pv,lv,cv⟩:VF))::G2)::(Cc v.r F::BN F++(Di v.k cs::(Br G1++(A7 pv f.d5::BI cv f.ch::(Br G2++(CN v.t ts::[gb P v,gb RB vN])))))))) (Bl λinst q=>by simp only[Al,Br,Cn,lJ,kX,li,lp,mJ,lF];omega);have h2:=Bs.gX (A:=[]) h1 (A7 V (f.en++[z])) (by simpa[AB.own,A7,Ah]using H) E D;have g:=h2.perm (M:=BC v.f (G1++(f,(⟨pv,lv,cv⟩:VF))::G2)::(A7 V (f.en++[z])::(Cc v.r F::BN F++(Di v.k cs::(Br G1++(A7 pv f.d5::BI cv f.ch::(Br G2++(CN v.t ts::[gb P v,gb RB vN])))))))) (Bl λinst q=>by simp only[lg,lp];omega);have y:U'.ownsRow u 51 4 v.f (G1++(f,(⟨pv,lv,cv⟩:VF))::G2).length ((G1++(f,(⟨pv,lv,cv⟩:VF))::G2).flatMap AX):=g.sep.own _ (ln ..);obtain⟨B,C⟩:=g.fhd l (j:=2) (y':=((⟨f.d5,f.gz,f.en++[z],f.ch⟩:MF),(⟨pv,V,cv⟩:VF))) oM V rfl;refine⟨Be.of (B.perm (Bl λinst q=> ?_)) (b.jY (f':=⟨f.d5,f.gz,f.en++[z],f.ch⟩) (vf':=⟨pv,V,cv⟩) oM ?_ ⟨a.d5,a.gz, λx I=> ?_,a.ch⟩),C,?_⟩
 . simp only[Al,Br,Cn,lJ,kX,li,lp,mJ,lF];omega
 . simp only[kJ,lh,mD];omega
 . rcases kS.1 I with e|e
   . exact a.en x e
   rw[lT.1 e];exact L
 rw[l]at y;rw[lV y (G1.length*4+2) (by simp only[kJ,lh];omega),Cr AX 4 Aq _ G1 2 (f,(⟨pv,lv,cv⟩:VF)) sP oM];rfl
theorem XG{v:VP}{code:List MI}(h:Bs u U s p (Al v F cs G ts (BI V code::[gb P v,gb RB vN])))(a:PB n ⟨F.map Prod.fst,cs,G.map Prod.fst,ts⟩)(m:G[q]?=K (f,(⟨pv,lv,cv⟩:VF)))(k:v.f=sG gf G cf)(j: ↑code<=n)(l:∀x∈code,x.wf):Be u (U.setCell ⟨gf,q*4+3,M⟩ V) s p P RB (n+1) v/\U.frozen? ⟨gf,q*4+3,M⟩=false/\U.cell? ⟨gf,q*4+3,M⟩=K cv:=by obtain⟨G1,G2,rfl,rfl⟩:=Fg m;have e:f∈(G1++(f,(⟨pv,lv,cv⟩:VF))::G2).map Prod.fst:=sP;have b:=a.wf.cC f e;have g:=a.fs f e;obtain⟨h1,h2,i⟩:=h.jr k;exact⟨(Be.of h1 (a.jY lR ⟨g.1,g.2.1,j⟩ ⟨b.d5,b.gz,b.en,l⟩)).mono oM,i,h2⟩
theorem Tg{v:VP}{x':MT}{y:J}(h:Bs u U s p (Al v F cs G ts [gb P v,gb RB vN]))(g:PB n ⟨F.map Prod.fst,cs,G.map Prod.fst,ts⟩)(C:ts[k]?=K x)(i:v.t=sG gt ts ct)(B:j<4)(A:x'.cells=x.cells.set j y)(D:x'.wf):Be u (U.setCell ⟨gt,k*4+j,none⟩ y) s p P RB (n+1) v/\U.frozen? ⟨gt,k*4+j,none⟩=false:=by
 obtain⟨a,b,rfl,rfl⟩:=Fg C;have e0:CN v.t (a++x::b)=⟨121,4,sG gt (a++x::b).length ct,(a++x::b).length,(a++x::b).flatMap MT.cells⟩:=by simp[CN,i]
 have h1:=h.perm (M:=CN v.t (a++x::b)::(Cc v.r F::BN F++(Di v.k cs::(BC v.f G::Br G++[gb P v,gb RB vN])))) (Bl λinst q=>by simp only[Al,li,lp,mJ,lF];omega);rw[e0]at h1;have h2:=Bs.jd h1 (↑a*4+j) y
 rw[Hu MT.cells 4 MT.gH a b j x x' y B A]at h2;have l:(⟨121,4,sG gt (a++x::b).length ct,(a++x::b).length,(a++x'::b).flatMap MT.cells⟩:AB)=CN v.t (a++x'::b):=by simp[CN,i]
 rw[l]at h2;refine⟨(Be.of (ts:=a++x'::b) (h2.1.perm (Bl λinst q=> ?_)) (g.kj lR (by simpa using g.tl) λz H=> ?_)).mono oM,h2.2⟩
 . simp only[Al,li,lp,mJ,lF];omega
 rcases kS.1 H with e|e
 . exact g.wf.dr z (kS.2 (.inl e))
 rcases lA.1 e with e|e
 . rw[e];exact D
 exact g.wf.dr z (kS.2 (.inr (lX _ e)))
theorem Tf{x x':MC}{y:J}(h:Bs u U s p (Al v F cs G ts D))(i:PB n ⟨F.map Prod.fst,cs,G.map Prod.fst,ts⟩)(H:cs[k]?=K x)(l:v.k=sG gt cs.length ct)(C:j<2)(B:x'.cells=x.cells.set j y)(I:x'.wf):(∃g,g.length=cs.length/\g[k]?=K x'/\Bs u (U.setCell ⟨gt,k*2+j,none⟩ y) s p (Al v F g G ts D)/\PB n ⟨F.map Prod.fst,g,G.map Prod.fst,ts⟩)/\U.frozen? ⟨gt,k*2+j,none⟩=false:=by
 obtain⟨a,b,rfl,rfl⟩:=Fg H;have e0:Di v.k (a++x::b)=⟨105,2,sG gt (a++x::b).length ct,(a++x::b).length,(a++x::b).flatMap MC.cells⟩:=by simp[Di,l]
 have h1:=h.perm (M:=Di v.k (a++x::b)::(Cc v.r F::BN F++(BC v.f G::Br G++(CN v.t ts::D)))) (Bl λinst q=>by simp only[Al,li,lp,lF];omega);rw[e0]at h1;have h2:=Bs.jd h1 (↑a*2+j) y
 rw[Hu MC.cells 2 MC.gH a b j x x' y C B]at h2;have A:(⟨105,2,sG gt (a++x::b).length ct,(a++x::b).length,(a++x'::b).flatMap MC.cells⟩:AB)=Di v.k (a++x'::b):=by simp[Di,l]
 rw[A]at h2;refine⟨⟨a++x'::b,sP,sP,h2.1.perm (Bl λinst q=> ?_),i.cs1 (by simpa using i.cl) λz L=> ?_⟩,h2.2⟩
 . simp only[Al,li,lp,lF];omega
 rcases kS.1 L with e|e
 . exact i.wf.aC z (kS.2 (.inl e))
 rcases lA.1 e with e|e
 . rw[e];exact I
 exact i.wf.aC z (kS.2 (.inr (lX _ e)))
theorem Td{v v':VP}{x:MP}{F':List (List Int×J)}(h:Bs u U s p (Al v F cs G ts [gb P v,gb RB vN]))(j:k<4)(g:[v'.r,v'.k,v'.f,v'.t]=[v.r,v.k,v.f,v.t].set k V)(b:F'.map Prod.fst=x.a7)(e:G.map Prod.fst=x.cC)(l:∀a,S4 a v ⟨F.map Prod.fst,cs,G.map Prod.fst,ts⟩ F G->S4 a v' x F' G)(i:PB n x):Be u (U.setCell ⟨P,k,M⟩ V) s p P RB n v':=by have h1:=Bs.gZ (D:=[]) (E:=[gb RB vN]) (X:=P) (t:=28) (q:=4) (xs:=[v.r,v.k,v.f,v.t]) h k j V;rw[<-g]at h1;exact⟨h1.sub (by rw[De];exact List.sublist_append_right _ _),⟨x,F',G,b,e, λa m=>l a (h1.rdB sP a m),i⟩⟩
theorem Ji{w:Y}{k n c:Nat}(h:w.ownsRow base e k (Z a n c) n xs):n<=c:=by
 rcases h.2 with⟨e,f⟩|⟨g,cap,b,e,_,_,i,_⟩
 . omega
 simp only[jc]at e;omega
theorem Rd.tail{u:Y}{k n c i g:Nat}(h:Rd u k (sG g n c) n xs)(e:i<=n)(f:n<=c)(a:a'=if c=i then K ⟨g,0,M⟩else K ⟨g,i*k,M⟩)(c':Nat):Rd u k (Z a' (n-i) c') (n-i) (xs.drop (i*k)):=by
 by_cases b:c=i
 . rw[lS b]at a;have h1:=h.back e c';exact⟨h1.1,.inl ⟨oM,a',c',by rw[show n-i=0 from oM]⟩⟩
 rw[lE b]at a;subst a;have:=h.back e c';rwa [lY]at this
theorem VX{v:VP}(h:Bs u U s p (Al v F cs G ts [gb P v,gb RB vN]))(a:PB n ⟨F.map Prod.fst,cs,G.map Prod.fst,ts⟩)(g:v.t=sG gt ts.length ct)(l:1<=ts.length)(j:a'=if ct=1 then K ⟨gt,0,M⟩else K ⟨gt,4,M⟩):Be u (U.setCell ⟨P,3,M⟩ (Z a' (ts.length-1) c')) s p P RB (n+1) {v with t:=Z a' (ts.length-1) c'}:=by have o:=h.gY.2.2.2.2;rw[g]at o;refine(Td (n:=n) (k:=3) (v':={v with t:=Z a' (ts.length-1) c'}) (V:=Z a' (ts.length-1) c') (x:=⟨F.map Prod.fst,cs,G.map Prod.fst,ts.drop 1⟩) (F':=F) h oM rfl rfl rfl (λy q=>⟨q.r,q.rr,q.k,q.f,q.ff,?_,q.rc,q.fp⟩) (a.kj lR (by have:=a.tl;simp only[mO]at this⊢;omega) λz m=>a.wf.dr z (ou m))).mono (n':=n+1) oM;have b:=q.t;rw[g]at b;have:=b.tail (i:=1) l (Ji o) j c';have e:=(I8 MT.cells 4 MT.gH ts 1).2;show Rd y 4 (Z a' (ts.length-1) c') (ts.drop 1).length ((ts.drop 1).flatMap MT.cells);rw[e,mO];exact this
theorem XI{v:VP}(h:Bs u U s p (Al v F cs G ts [gb P v,gb RB vN]))(i:PB n ⟨F.map Prod.fst,cs,G.map Prod.fst,ts⟩)(l:v.r=Z a F cr)(j:2<=F.length):Be u (U.setCell P (Z a 2 c')) s p P RB (n+1) {v with r:=Z a 2 c'}:=by
 refine(Td (n:=n) (k:=0) (v':={v with r:=Z a 2 c'}) (V:=Z a 2 c') (x:=⟨(F.take 2).map Prod.fst,cs,G.map Prod.fst,ts⟩) (F':=F.take 2) h oM rfl rfl rfl (λz q=>⟨?_, λy g=>q.rr y (m6 g),q.k,q.f,q.ff,q.t, λy g=>q.rc y (m6 g),q.fp⟩) (i.rs1 lR (by simp only[kW,lj];omega) (λr b=> ?_) (λr b=> ?_))).mono (n':=n+1) oM
 . have b:=q.r;rw[l]at b;simp only[kW]at b;have:=b.front (m:=2) (by simpa using Au AZ 1 (λ_=>rfl) F) j c';have e:=(I8 AZ 1 (λ_=>rfl) F 2).1;show Rd z 1 (Z a 2 c') ((F.take 2).map Prod.fst).length ((F.take 2).flatMap AZ);rw[e,kW,lj,Nat.min_eq_left j];exact this
 . obtain⟨y,g,rfl⟩:=lK.1 b;exact i.rg _ (lK.2 ⟨y,m6 g,rfl⟩)
 obtain⟨y,g,rfl⟩:=lK.1 b;exact i.wf.a7 _ (lK.2 ⟨y,m6 g,rfl⟩)
theorem Ww(h:Bs u U s p (Al v F cs G ts D)):Bs u (U.alloc (.cells #[] 60)) s p (Al v F cs G ts (BI (sG U 0 0) []::D)):=(h.row (r:=BI (sG U 0 0) []) (Ag _ _) (CM U _ _)).perm (Bl λinst q=>by simp only[Al,li,lp,mJ,lF];omega)
theorem Rc(h:Bs u U s p (Al v F cs G ts D))(b:G[q]?=K (f,(⟨pv,lv,sG gc f.ch cc⟩:VF)))(g:at_<f.ch.length):Rd U 4 (sG gc at_ cc) at_ ((f.ch.take at_).flatMap MI.cells)/\∀(a':Option Addr) (c':Nat),(if cc=at_+1 then K (⟨gc,0,M⟩:Addr)else K ⟨gc,(at_+1)*4,M⟩)=a'->Rd U 4 (Z a' (f.ch.length-(at_+1)) c') (f.ch.length-(at_+1)) ((f.ch.drop (at_+1)).flatMap MI.cells):=by have o:=(Te h b).2;have a:=Rd.gM o;rw[(I8 MI.cells 4 MI.gH f.ch at_).1,(I8 MI.cells 4 MI.gH f.ch (at_+1)).2];exact⟨a.front (Au MI.cells 4 MI.gH _) oM cc, λa' c' e=>a.tail oM (Ji o) e.symm c'⟩
theorem Wz{v:VP}(h:Bs u U s p (Al v F cs G ts [gb P v,gb RB vN]))(b:PB n ⟨F.map Prod.fst,cs,G.map Prod.fst,ts⟩)(l:x.wf)(j:U'.ownsRow u 121 4 V (ts.length+1) (ts.flatMap MT.cells++x.cells))(i:U.grownBy U' v.t.ownBlock)(g:V.ownBlock=v.t.ownBlock\/V.ownBlock=K U):Be u (U'.setCell ⟨P,3,M⟩ V) s p P RB (n+1) {v with t:=V}/\U'.frozen? ⟨P,3,M⟩=false/\U'.cell? ⟨P,3,M⟩=K v.t/\U'.cell? ⟨P,2,M⟩=K v.f:=by
 have h1:=h.iP x V j i g;have h2:=Bs.gZ (D:=[]) (E:=[gb RB vN]) (X:=P) (t:=28) (q:=4) (xs:=[v.r,v.k,v.f,v.t]) h1 3 oM V;have a:=h1.four (P:=P) (v:=v) (by simp[Al]);refine⟨Be.of h2 (b.kj oM (by have:=b.tl;simp only[kJ,lh,mD]at this⊢;omega) λz m=> ?_),a.2.2.2.2,a.1.2.2.2,a.1.2.2.1⟩;rcases kS.1 m with e|e
 . exact b.wf.dr z e
 rw[lT.1 e];exact l
theorem Wx{v:VP}{g:J}(h:Bs u U s p (Al v F cs G ts [gb P v,gb RB vN]))(i:PB n ⟨F.map Prod.fst,cs,G.map Prod.fst,ts⟩)(S:F[k]?=K (r,g))(I:v.r=sG gr F cr)(W:CO z)(T:U'.ownsRow u 2 1 V (r.length+1) (r.flatMap Ah++[iZ z]))(R:U.grownBy U' g.ownBlock)(hat:V.ownBlock=g.ownBlock\/V.ownBlock=K U):Be u (U'.setCell ⟨gr,k,none⟩ V) s p P RB (n+1) v/\U'.frozen? ⟨gr,k,none⟩=false/\U'.cell? ⟨gr,k,none⟩=K g/\U'.cell? P=K v.r:=by
 obtain⟨a,b,rfl,rfl⟩:=Fg S;have h1:=h.perm (M:=A7 g r::(Cc v.r (a++(r,g)::b)::(BN a++BN b++(Di v.k cs::(BC v.f G::Br G++(CN v.t ts::[gb P v,gb RB vN])))))) (Bl λinst q=>by simp only[Al,BN,mL,mo,li,lp,mJ,lF];omega);have h2:=Bs.gX (A:=[]) h1 (A7 V (r++[z])) (by simpa[AB.own,A7,Ah]using T) R hat;have e0:Cc v.r (a++(r,g)::b)=⟨36,1,sG gr (a++(r,g)::b).length cr,(a++(r,g)::b).length,(a++(r,g)::b).flatMap AZ⟩:=by simp[Cc,I]
 have y:=h2.perm (M:=Cc v.r (a++(r,g)::b)::(A7 V (r++[z])::(BN a++BN b++(Di v.k cs::(BC v.f G::Br G++(CN v.t ts::[gb P v,gb RB vN])))))) (Bl λinst q=>by simp only[lg,lp];omega);rw[e0]at y;have o4:U'.ownsRow u 36 1 (sG gr (a++(r,g)::b).length cr) (a++(r,g)::b).length ((a++(r,g)::b).flatMap AZ):=y.sep.own _ (ln ..);have l:=Bs.jd y a V;have B:=Hu AZ 1 (λ_=>rfl) a b 0 (r,g) (r++[z],V) V oM rfl;rw[lr,kZ]at B;rw[B]at l;have O:(⟨36,1,sG gr (a++(r,g)::b).length cr,(a++(r,g)::b).length,(a++(r++[z],V)::b).flatMap AZ⟩:AB)=Cc v.r (a++(r++[z],V)::b):=by simp[Cc,I]
 rw[O]at l;have D:∀x∈(a++(r++[z],V)::b).map Prod.fst,x=r++[z]\/x∈(a++(r,g)::b).map Prod.fst:= λx j=>by
  simp only[mL,mo,kS,lA]at j⊢;rcases j with h|h|h
  . exact .inr (.inl h)
  . exact .inl h
  exact .inr (.inr (.inr h))
 have H:r∈(a++(r,g)::b).map Prod.fst:=sP;refine⟨Be.of (F:=a++(r++[z],V)::b) (l.1.perm (Bl λinst q=> ?_)) (i.rs1 oM (by simpa using i.rl) (λx j=> ?_) λx j N L=> ?_),l.2,?_,(h2.four (P:=P) (v:=v) sP).1.1⟩
 . simp only[Al,BN,mL,mo,li,lp,mJ,lF];omega
 . rcases D x j with rfl|e
   . have:=i.rg r H;simp only[kJ,lh,mD];omega
   have:=i.rg x e;omega
 . rcases D x j with rfl|e
   . rcases kS.1 L with e|e
     . exact i.wf.a7 r H N e
     rw[lT.1 e];exact W
   exact i.wf.a7 x e N L
 have Q:=lV o4 a (by simp only[kJ,lh];omega);have C:=Cr AZ 1 (λ_=>rfl) (a++(r,g)::b) a 0 (r,g) sP oM;rw[lr,kZ]at C;rw[Q,C];rfl
end
structure D2(w:Y)(base:Nat)(vb vo vi vl:J)(F:List (MB×J))(ys:List (ML×J×J))(r:Fy):Prop where
 j9:w.ownsRow base 58 3 vb F (F.flatMap Ct)
 j7:w.ownsRow base 95 3 vl ys (ys.flatMap BS)
 gW:CU w base (DP F++(vo,r.gJ)::(vi,r.gS)::Eu ys)
 eb:F.map Prod.fst=r.ej
 el:ys.map Prod.fst=r.gI
theorem D2.none(w:Y)(base:Nat)(c a:Int):D2 w base sN sN sN sN [] [] (El c a):=by
 refine⟨lq _ _ _ _,lq _ _ _ _,⟨λx e=> ?_,?_⟩,rfl,rfl⟩
 . simp[DP,Eu,El]at e;rcases e with rfl|rfl<;>exact lq _ _ _ _
 refine List.Pairwise.cons ?_ (List.Pairwise.cons ?_ List.Pairwise.nil)
 . intro y _ g b;cases b
 intro y _ g b;cases b
theorem CU.ranges{w:Y}{B M:Nat}(f:CU w B A)(b:CU w M C)(h:B<=M)(l:∀x∈A,∀g,x.1.ownBlock=K g->g<M):CU w B (A++C):=by
 refine⟨λx m=> ?_,mP.2 ⟨f.sep,b.sep, λa i c j g k e=> ?_⟩⟩
 . rcases kS.1 m with q|q
   . exact f.own x q
   exact Ba (b.own x q) h
 have h1:=l a i g k;have h2:=((b.own c j).lt g e).1;omega
theorem CU.single{w:Y}{v:J}{l:List Int}(h:w.ownsRow B 2 1 v l (l.flatMap Ah)):CU w B [(v,l)]:=⟨λx a=>by simp at a;subst a;exact h,sP⟩
theorem Sr{w:Y}{B M:Nat}(j:CU w B (b.map λy=>(y.2.1,y.1.back)))(f:CU w M (b.map λy=>(y.2.2,y.1.ej)))(v:B<=M)(l:∀y∈b,∀g,y.2.1.ownBlock=K g->g<M):CU w B (Eu b):=by
 have h:∀y∈b,∀z∈b,IG (y.2.1,y.1.back) (z.2.2,z.1.ej):= λy i z a g A e=>by have h1:=l y i g A;have h2:=((f.own (z.2.2,z.1.ej) (lK.2 ⟨z,a,rfl⟩)).lt g e).1;omega
 refine⟨λx F=> ?_,?_⟩
 . obtain⟨y,i,q⟩:=mN.1 F;simp only[lA,lW,mZ]at q;rcases q with rfl|rfl
   . exact j.own _ (lK.2 ⟨y,i,rfl⟩)
   exact Ba (f.own _ (lK.2 ⟨y,i,rfl⟩)) v
 have D:=nP.1 j.sep;have E:=nP.1 f.sep;clear j f l;unfold Eu;induction b with
 |nil=>exact List.Pairwise.nil
 | cons y r H=>
   obtain⟨n,s⟩:=mH.1 D;obtain⟨t,u⟩:=mH.1 E;have I:=H (λy' G z a=>h y' (lX _ G) z (lX _ a)) s u;rw[kX];refine mP.2 ⟨?_,I, λp m q C=> ?_⟩
   . refine List.Pairwise.cons (λz a=> ?_) sP;simp only[lA,lW,mZ]at a;subst a;exact h y (ln ..) y (ln ..)
   obtain⟨z,a,k⟩:=mN.1 C;simp only[lA,lW,mZ]at m k;rcases m with rfl|rfl
   . rcases k with rfl|rfl
     . exact n z a
     exact h y (ln ..) z (lX _ a)
   rcases k with rfl|rfl
   . exact(h z (lX _ a) y (ln ..)).symm
   exact t z a
theorem Ge(h:Vs E [] [] [0] S O)(x:Nat):x∈S↔x∈O:=by
 obtain⟨N,t⟩:=h.told;have:O=N:=by simpa using t.o
 subst this;rw[t.seen x];simp
theorem GX.ints{w:Y}{F:List (MB×J)}{i:List MB}{gb ob cb n:Nat}(h:GX w base V F)(s:F.map Prod.fst=i)(t:V=sO gb ob n cb)(y:n= ↑i):∀b,b<n->∃f l:Int,w.cell? ⟨gb,ob+b*3,M⟩=K (iZ f)/\w.cell? ⟨gb,ob+b*3+1,M⟩=K (iZ l):= λb B=>by
 have C: ↑F=n:=by rw[y,<-s,kW]
 have z:=Rd.gM h.row;rcases z.2 with⟨e0,_⟩|⟨g,o,c,a,j⟩
 . omega
 rw[t]at a;simp only[jc,kK,mA,mg]at a;obtain⟨⟨rfl,rfl⟩,_,rfl⟩:=a;obtain⟨x,k⟩:∃x,F[b]?=K x:=⟨_,an oM⟩;have p:=Rd.elem Bh j b _ k 0 _ rfl;have A:=Rd.elem Bh j b _ k 1 _ rfl;rw[kZ]at p;exact⟨_,_,p,A⟩
theorem Uq{n:Nat}(i:0<n)(g:∀b,b<n->∀x∈E b,x<n)(h:Vs E [] [] [0] S O):(∀x∈O,x<n)/\O.Nodup/\ ↑O<=n/\∀x∈O,Er E (λ_=>True) 0 x:=by
 obtain⟨N,t⟩:=h.told;have:O=N:=by simpa using t.o
 subst this;have f:∀x∈O,Er E (λ_=>True) 0 x:= λx a=>by
  obtain⟨q,j,k⟩:=t.from_ x a;have:q=0:=by simpa using j
  subst this;exact k.mono λ_ _=>trivial
 have e:∀x∈O,x<n:= λx a=>(f x a).lt g i
 refine⟨e,t.nodup,?_,f⟩;have:=Ga O n e t.nodup;omega
theorem Vz{w:Y}{base k n c g:Nat}(h:w.ownsRow base e k (sG g n c) n xs):n<=c:=by
 rcases h.2 with⟨a,_⟩|⟨j,f,i,a,_,_,b,_⟩
 . cases a
 cases a
 exact b
structure GD(w1 u:Y)(n G gN cN gF gO cO gP gi:Nat)(E:Nat->List Nat)(O:List Nat)(I:Nat->Int):Prop where
 gR:Ar u G #[sG gN n cN,sG gF n n,sG gO n cO,sG gP n n,sG gi n n] 134
 nx:FR u gN 0 n E
 fr:FR u gF 0 n (BF E n)
 ord:Gj u w1 (sG gO n cO) O.reverse
 gi_:GI u G n gP n gi n (DF O) I
 gS:u.ownsRow w1 2 1 (sG gi n n) n (zv I n)
 gG:Ad w1 w1 u
 ne:gO≠gi
theorem GD.bM{l u k:Y}{n G f cN e g b i j:Nat}(h:GD l u n G f cN e g b i j E O I)(a:Ad u u k):GD l k n G f cN e g b i j E O I:=⟨h.gR.bM a,h.nx.bM a,h.fr.bM a,h.ord.bM a,h.gi_.bM a,Am h.gS a lR,Ai h.gG lR a,h.ne⟩
theorem GD.of{C j l B:Y}{n G r cN p s u v F:Nat}(h:GM C j n G r cN p s u v E S O)(T: ↑O=n)(U:∀x,x∈O↔x<n)(i:Ad j j l)(f:DW l B G n #[sG r n cN,sG p n n,sG s n u,sG v n n] F I):GD C B n G r cN p s u v F E O I:=by
 obtain⟨X,x1,x2,x3,e,A⟩:=f.gR;simp only[Array.mk.injEq,oj,mg]at e;obtain⟨rfl,rfl,rfl,rfl⟩:=e;have P:∀(g b:Nat),g≠G->g< ↑j->l.cell? ⟨g,b,M⟩=j.cell? ⟨g,b,M⟩:= λg b _ W=>by unfold World.cell?;rw[i.block g W]
 have fx:∀k,k< ↑l->k∉[G]->B.heap[k]?=l.heap[k]?:= λk V Q=>f.fx k V (by simpa using Q)
 have R:Gj l C (sG s n u) O.reverse:=by have:=h.ord.bM i;rw[T]at this;exact this
 have L:∀(g:Nat) {D:Nat->List Nat},FR j g 0 n D->n≠0->g<j.heap.size:= λg D q Q=>by obtain⟨a,c,h1,_⟩:=q 0 oM;exact jC h1
 refine⟨A,(h.nx.bM i).jV fx (by simpa using h.ne.1) (λb a m c y t N=> ?_),(h.fr.bM i).jV fx (by simpa using h.ne.2.1) (λb a m c y t N=> ?_),R.fx f.fx (λg H=>by simp only[Value.ownBlock,kK]at H;rw[<-H];exact h.ne.2.2.1),⟨A.cell 3,A.cell 4, λx z=>f.cell (Ak i (h.pl x ((U x).2 z))) h.ne.2.2.2, λx z=> ?_⟩,Ba f.row (kT h.gG.size i.size),?_,?_⟩
 . rw[P r b h.ne.1 (L r h.nx oM)]at t;simpa using h.nn b a m c y t N
 . rw[P p b h.ne.2.1 (L p h.fr oM)]at t;simpa using h.nf b a m c y t
 . have:=f.row.cellAt x oM;rw[PS _ _ _ z]at this;exact this
 . exact(Ai h.gG lR i).trans (f.gG.mono h.ge)
 have h1:=(AD f.row).1;have:=(R.lt s rfl).2;omega
theorem R9{n:Nat}{j:Nat->Nat}(h:NR E n j I)(b:Nat)(a:b<n):(b=0/\I b=-1)\/b≠0/\∃c:Nat,c<n/\I b=(c:Int)/\Gl E b c:=by
 by_cases e:b=0
 . exact .inl ⟨e,by rw[e];exact h.z⟩
 obtain⟨c,c1,c2,c3,_⟩:=h.i7.tree.up b a e ((h.all b a).resolve_left e);refine .inr ⟨e,c,c2,c1, λq=>by rw[q]at c3;omega,(h.jp c b a).1 (.up e c1 .here), λd g i=> ?_⟩;obtain⟨_,c',k,f⟩:=((h.jp d b a).2 i).iJ g;obtain rfl:c'=c:=oM;exact(h.jp d c' c2).1 f
theorem CU.sub{w:Y}(h:CU w B C)(a:List.Sublist A C):CU w B A:=⟨λx b=>h.own x (a.subset b),h.sep.sublist a⟩
theorem CU.low{w:Y}{b:Nat}(h:CU w B A)(a:b<=B):CU w b A:=⟨λx e=>Ba (h.own x e) a,h.sep⟩
theorem CU.six{w:Y}{b:Nat}(h:CU w B A)(e:b<B)(f x1 x2 x3 g i:J):CU (six w b f x1 x2 x3 g i) B A:=⟨λx a=>Kl (h.own x a) (QI (h.own x a) e) _ _ _ _ _ _,h.sep⟩
theorem SD{w k h q i a:Y}{n G D cN C m l H p gB t:Nat}{vb:J}{s:Option Addr}{F:List (MB×J)}{A:List (J×List Nat)}{B:List MB}{W:List ML}(u:GX k ((w:Nat)+1) vb F)(hF:F.map Prod.fst=B)(aw:(w:Nat)< ↑k)(au:(k:Nat)<= ↑h)(am:Ad k k i)(z:GD h q n G D cN C m l H p E O I)(R:GD h i n G D cN C m l H p E O I)(hO: ↑O=n)(N:Ad q q i)(P:BK q i n gB A)(v:Ad i i a)(T:LP i.drew a (Z s b t) b)(ao:b.map Prod.fst=W)(V:List.Sublist (b.map λy=>(y.2.1,y.1.back)) (A.map λx=>(x.1,ints x.2)))(X v1 v2 v3 v4 v5:J):D2 (six a w X v1 v2 v3 v4 v5) w vb (sG m n l) (sG p n n) (Z s b t) F b ⟨0,0,B,ints O.reverse,(List.range n).map I,W⟩:=by
 have L:Ad k k a:=Ai am lR v;have aq:(h:Nat)<=q.heap.size:=z.gG.size;have aA:=N.size;have S:=R.bM v;have A0:CU a ((w:Nat)+1) (DP F):=u.gW.ir L;have aj:a.ownsRow h 2 1 (sG m n l) (ints O.reverse).length ((ints O.reverse).flatMap Ah):=by have:=S.ord;unfold Gj at this;rw[Dk,<-AU]at this;exact this
 have ah:a.ownsRow h 2 1 (sG p n n) ((List.range n).map I).length (((List.range n).map I).flatMap Ah):=by have:=S.gS;rw[VQ]at this;rw[kW,mS];exact this
 have A1:CU a h [((sG m n l:J),ints O.reverse),(sG p n n,(List.range n).map I)]:=by
  refine⟨λx j=> ?_,?_⟩
  . simp only[lA,lW,mZ]at j;rcases j with rfl|rfl
    . exact aj
    exact ah
  refine List.Pairwise.cons (λy r=> ?_) sP;simp only[lA,lW,mZ]at r;subst r;intro g f e;simp only[Value.ownBlock,kK]at f e;exact R.ne (by rw[f,e])
 have A2:CU a q (Eu b):=by
  refine Sr ((P.gW.ir v).sub V) T.gW N.size λy r g f=> ?_
  have hm:=V.subset (lK.2 ⟨y,r,rfl⟩);exact((P.gW.own _ hm).lt g f).2
 have ae:CU a h ([((sG m n l:J),ints O.reverse),(sG p n n,(List.range n).map I)]++Eu b):=by
  refine A1.ranges A2 aq λx j g f=> ?_
  simp only[lA,lW,mZ]at j;rcases j with rfl|rfl
  . exact(z.ord.lt g f).2
  exact(z.gS.lt g f).2
 have a8:=A0.ranges ae oM (λx j g f=>by have:=((u.gW.own x j).lt g f).2;omega);have Q:=Am u.row L lR;have U:a.ownsRow i 95 3 (Z s b t) b (b.flatMap BS):=T.iE;refine⟨Ba (Kl Q (QI Q (oU _)) _ _ _ _ _ _) (Nat.le_succ _),Ba (Kl U (QI U oM) _ _ _ _ _ _) oM,?_,hF,ao⟩;exact(a8.six (oU _) X v1 v2 v3 v4 v5).low (Nat.le_succ _)
end Go.Proofs.YtjnglocdoljgkaaGreat
