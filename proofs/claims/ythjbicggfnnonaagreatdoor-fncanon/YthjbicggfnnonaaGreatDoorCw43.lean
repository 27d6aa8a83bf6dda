import Derived.Test.YthjbicggfnnonaaGreatDoorCw41
import Derived.Test.YthjbicggfnnonaaGreatDoorCw39
namespace Go.Proofs.YthjbicggfnnonaaGreatDoor
open Go.ChangeShapes Go.WideShapes Go.ChangeAt Go.RowKit
set_option linter.unusedVariables false
set_option maxHeartbeats 8000000
set_option maxRecDepth 100000
variable {xs:List Value}{α:Type}{base k gt ct gr cr c':Nat}{e:TypeId}{x:MT}{r:List Int}{a a':Option Addr}{V:Value}
section
variable {n n':Nat} {R R':List (List Int)} {cs cs':List MC} {fs:List MF} {ts ts':List MT} {G1 G2:List (MF×VF)} {f f':MF} {vf vf':VF}
theorem PB.jy(h:PB n ⟨R,cs,(G1++(f,vf)::G2).map Prod.fst,ts⟩)(b:n<=n')(d:f'.params.length<=n'/\f'.locals.length<=n'/\f'.code.length<=n')(hw:f'.wf):PB n' ⟨R,cs,(G1++(f',vf')::G2).map Prod.fst,ts⟩:=by
 have c:∀g∈(G1++(f',vf')::G2).map Prod.fst,g=f'\/g∈(G1++(f,vf)::G2).map Prod.fst:=fun g a=>by
  simp only[lW,mL,kB,ka]at a⊢;rcases a with h|h|h
  . exact .inr (.inl h)
  . exact .inl h
  exact .inr (.inr (.inr h))
 refine⟨?_,h.rl,fun r i=>jX (h.rg r i) b,jX h.cl b,jX h.tl b,fun g a=> ?_,⟨h.wf.aB,h.wf.ag,fun g a=> ?_,h.wf.a7⟩⟩
 . have:=h.fl;simp only[kZ,f6,kY]at this⊢;omega
 . rcases c g a with rfl|e
   . exact d
   have:=h.fs g e;omega
 rcases c g a with rfl|e
 . exact hw
 exact h.wf.funcs g e
theorem PB.jK(h:PB n ⟨R,cs,fs,ts⟩)(c:n<=n')(b:ts'.length<=n')(hw:∀x∈ts',x.wf):PB n' ⟨R,cs,fs,ts'⟩:=by have a:=h.mono c;exact⟨a.fl,a.rl,a.rg,a.cl,b,a.fs,⟨a.wf.aB,a.wf.ag,a.wf.funcs,hw⟩⟩
theorem PB.cs1(h:PB n ⟨R,cs,fs,ts⟩)(a:cs'.length<=n)(hw:∀x∈cs',x.wf):PB n ⟨R,cs',fs,ts⟩:=⟨h.fl,h.rl,h.rg,a,h.tl,h.fs,⟨h.wf.aB,hw,h.wf.funcs,h.wf.a7⟩⟩
theorem PB.rs1(h:PB n ⟨R,cs,fs,ts⟩)(c:n<=n')(b:R'.length<=3)(d:∀r∈R',r.length<=n')(hw:∀r∈R',∀z∈r,Cr z):PB n' ⟨R',cs,fs,ts⟩:=by have a:=h.mono c;exact⟨a.fl,b,d,a.cl,a.tl,a.fs,⟨hw,a.wf.ag,a.wf.funcs,a.wf.a7⟩⟩
end
theorem Rd.back{u:World}{k n m c:Nat}{g o:Nat}(h:Rd u k (.slice (some ⟨g,o,none⟩) n c) n xs)(l:m<=n)(c':Nat):Rd u k (.slice (some ⟨g,o+m*k,none⟩) (n-m) c') (n-m) (xs.drop (m*k)):=by
 have e:=h.1;refine⟨by rw[lN,e,<-Nat.sub_mul],?_⟩;rcases h.2 with⟨f,_⟩|⟨i,p,c1,a,d⟩
 . exact .inl ⟨oM,some ⟨g,o+m*k,none⟩,c',by rw[show n-m=0 from oM]⟩
 simp only[ip,i4,lF,lp]at a;obtain⟨⟨rfl,rfl⟩,_⟩:=a;refine .inr ⟨g,o+m*k,c',rfl,fun j x b=> ?_⟩;rw[nH]at b;have:=d _ _ b;rwa [<-Nat.add_assoc]at this
theorem Fw{G:List α}{q:Nat}{y:α}(h:G[q]?=some y):∃a b,G=a++y::b/\a.length=q:=by obtain⟨c,e⟩:=d7.1 h;exact⟨G.take q,G.drop (q+1),by rw[<-e,List.getElem_cons_drop,mN],by rw[lB];omega⟩
theorem Cr.wrap(z:Int):Cr (IntKind.i64.wrap z):=wf_wrap _ z
theorem Nc.wrap(z:Int):Nc (IntKind.u32.wrap z):=wf_wrap _ z
theorem Ia(f:α->List Value)(m:Nat)(a:∀y,(f y).length=m)(A B:List α)(j:Nat)(y y':α)(u:Value)(c:j<m)(b:f y'=(f y).set j u):((A++y::B).flatMap f).set (A.length*m+j) u=(A++y'::B).flatMap f:=by have d:=Av f m a A;rw[kO,kO,mR _ _ oM,d,mO,kG,kG,List.set_append_left _ _ (by rw[a];exact c),b]
theorem I9(f:α->List Value)(m:Nat)(c:∀y,(f y).length=m)(xs:List α)(k:Nat):(xs.take k).flatMap f=(xs.flatMap f).take (k*m)/\(xs.drop k).flatMap f=(xs.flatMap f).drop (k*m):=by
 induction xs generalizing k with
 |nil=>simp
 | cons x r b=>
   cases k with
   |zero=>simp
   | succ k=>have a:=c x;rw[List.take_succ_cons,List.drop_succ_cons,kG,kG,(b k).1,(b k).2,List.take_append,List.drop_append,lH (l:=f x) (by rw[a,mq];omega),nI (l:=f x) (by rw[a,mq];omega),a,show(k+1)*m-m=k*m by rw[mq];omega];exact⟨rfl,rfl⟩
theorem Q3{w c:World}{s:Value}{k n:Nat}(h:w.ownsRow base e k s n xs)(i:∀g,s.ownBlock=some g->base<=g->g<w.heap.size->c.heap[g]?=w.heap[g]?):c.ownsRow base e k s n xs:=by
 refine⟨h.1,?_⟩;rcases h.2 with h|⟨g,cap,d,rfl,a,b,f⟩
 . exact .inl h
 refine .inr ⟨g,cap,d,rfl,a,?_,f⟩;rw[i g rfl a (kN.1 b).1];exact b
theorem CJ.rdH{w:World}{v:VP}{F:List (List Int×Value)}{cs:List MC}{G:List (MF×VF)}{ts:List MT}{B:List Ax}(h:CJ w base (Ab v F cs G ts B)):Nb w v ⟨F.map Prod.fst,cs,G.map Prod.fst,ts⟩ F G:=by
 have h1:=Rd.cB (h.own (Bf v.r F) (by simp[Ab]));have b:=Rd.cB (h.own (AP v.f G) (by simp[Ab]));refine⟨by simpa[Bf]using h1,fun x a=>Rd.cB (h.own (Ay x.2 x.1) ?_),Rd.cB (h.own (Cd v.k cs) (by simp[Ab])),by simpa[AP]using b,fun x a=>⟨Rd.cB (h.own (Ay x.2.p x.1.params) ?_),Rd.cB (h.own (Ay x.2.l x.1.locals) ?_),Rd.cB (h.own (A3 x.2.c x.1.code) ?_)⟩,Rd.cB (h.own (BS v.t ts) (by simp[Ab]))⟩
 . have:Ay x.2 x.1∈A5 F:=lL.2 ⟨x,a,rfl⟩;simp[Ab,this]
 all_goals
  have e:∀r∈Bl x,r∈AV G:=fun r d=>lP.2 ⟨x,a,d⟩
 . have:=e (Ay x.2.p x.1.params) (by simp[Bl]);simp[Ab,this]
 . have:=e (Ay x.2.l x.1.locals) (by simp[Bl]);simp[Ab,this]
 have:=e (A3 x.2.c x.1.code) (by simp[Bl]);simp[Ab,this]
structure Be(u U:World)(s:CP)(p:Int)(P RB n:Nat)(v:VP):Prop where
 bl:Bs u U s p [gb P v,gb RB vN]
 tl:∃x F G,F.map Prod.fst=x.aB/\G.map Prod.fst=x.funcs/\(∀u2:World,(∀k,u.heap.size<=k->k<U.heap.size->k≠RB->u2.heap[k]?=U.heap[k]?)->Nb u2 v x F G)/\PB n x
section
variable {u U:World} {s:CP} {p p':Int} {P RB n n':Nat} {v:VP} {F:List (List Int×Value)} {cs:List MC} {G:List (MF×VF)} {ts:List MT} {D:List Ax}
theorem Bs.rdB(h:Bs u U s p (Ab v F cs G ts D))(c:gb RB vN∈D):∀a:World,(∀k,u.heap.size<=k->k<U.heap.size->k≠RB->a.heap[k]?=U.heap[k]?)->Nb a v ⟨F.map Prod.fst,cs,G.map Prod.fst,ts⟩ F G:=fun a f=>by have h1:=h.sep;rw[Dt]at h1;have h2:=lX.1 h1.sep;exact CJ.rdH (base:=u.heap.size) (B:=[]) ⟨fun r b=>Q3 (h1.own r (kB.2 (.inl b))) fun g d i j=>f g i j fun e=>h2.2.2 r b _ c g d (by rw[e];rfl),h2.1⟩
theorem Be.of(h:Bs u U s p (Ab v F cs G ts [gb P v,gb RB vN]))(a:PB n ⟨F.map Prod.fst,cs,G.map Prod.fst,ts⟩):Be u U s p P RB n v:=⟨h.sub (by rw[Dt];exact List.sublist_append_right _ _),⟨_,F,G,rfl,rfl,h.rdB sP,a⟩⟩
theorem Be.mono(h:Be u U s p P RB n v)(c:n<=n'):Be u U s p P RB n' v:=by obtain⟨x,F,G,h1,h2,a,b⟩:=h.tl;exact⟨h.bl,x,F,G,h1,h2,a,b.mono c⟩
theorem Be.jb(h:Be u U s p P RB n v):∃a m c1 b w c2 c y c3 d z c4,v=⟨.slice a m c1,.slice b w c2,.slice c y c3,.slice d z c4⟩:=by
 obtain⟨x,F,G,h1,h2,l,A⟩:=h.tl;have q:=l U fun _ _ _ _=>rfl
 obtain⟨v1,v2,v3,B⟩:=v;obtain⟨a,c1,e⟩:=q.r.bW;obtain⟨b,c2,g⟩:=q.k.bW;obtain⟨c,c3,i⟩:=q.f.bW;obtain⟨d,c4,j⟩:=q.t.bW;simp only[]at e g i j;exact⟨a,_,c1,b,_,c2,c,_,c3,d,_,c4,by rw[e,g,i,j]⟩
theorem Be.fin{m:Int}(h:Be u U s p' P RB n v)(h1:p<=p')(h2:p'<=p+m){e:Ending}(j:e=.returned (.agg #[v.r,v.k,v.f,v.t])):JP s p m n u e ((((U.setCell ⟨RB,0,none⟩ v.r).setCell ⟨RB,1,none⟩ v.k).setCell ⟨RB,2,none⟩ v.f).setCell ⟨RB,3,none⟩ v.t):=by obtain⟨x,F,G,c,d,g,i⟩:=h.tl;have q:Bs u U s p' ([gb P v]++gb RB vN::[]):=h.bl;have b:=(((q.set 0 oM v.r).set 1 oM v.k).set 2 oM v.f).set 3 oM v.t;refine⟨v,x,j,⟨F,G,c,d,fun z l=>g z fun k w y a=> ?_⟩,i,p',h1,h2,b.aC.src,b.aC.gJ⟩;rw[l k w (by simpa using y),km _ _ _ _ (fun e=>a e),km _ _ _ _ (fun e=>a e),km _ _ _ _ (fun e=>a e),km _ _ _ _ (fun e=>a e)]
theorem Be.rb(h:Be u U s p P RB n v):((U.cell? ⟨P,0,none⟩=some v.r/\U.cell? ⟨P,1,none⟩=some v.k/\U.cell? ⟨P,2,none⟩=some v.f/\U.cell? ⟨P,3,none⟩=some v.t)/\(U.cell? ⟨RB,0,none⟩=some (.slice none 0 0)/\U.cell? ⟨RB,1,none⟩=some (.slice none 0 0)/\U.cell? ⟨RB,2,none⟩=some (.slice none 0 0)/\U.cell? ⟨RB,3,none⟩=some (.slice none 0 0))/\(U.frozen? ⟨RB,0,none⟩=false/\U.frozen? ⟨RB,1,none⟩=false/\U.frozen? ⟨RB,2,none⟩=false/\U.frozen? ⟨RB,3,none⟩=false))/\Bs u ((((U.setCell ⟨RB,0,none⟩ v.r).setCell ⟨RB,1,none⟩ v.k).setCell ⟨RB,2,none⟩ v.f).setCell ⟨RB,3,none⟩ v.t) s p [gb P v,gb RB v]:=by have a:Bs u U s p ([gb P v]++gb RB vN::[]):=h.bl;have r:=h.bl.four (P:=RB) (v:=vN) sP;exact⟨⟨(h.bl.four (P:=P) (v:=v) sP).1,r.1,r.2⟩,(((a.set 0 oM v.r).set 1 oM v.k).set 2 oM v.f).set 3 oM v.t⟩
end
section
variable {w u U U':World} {s:CP} {p:Int} {P RB n:Nat} {v:VP} {F:List (List Int×Value)} {cs:List MC} {G G1 G2:List (MF×VF)} {ts:List MT} {D R:List Ax} {f:MF} {y y':MF×VF} {pv lv cv:Value} {gf cf gc cc q at_ len i j:Nat} {z:Int}
theorem My(h:Bs u U s p (Ab v F cs G ts D))(b:PB n ⟨F.map Prod.fst,cs,G.map Prod.fst,ts⟩)(m:G[q]?=some (f,(⟨pv,lv,sG gc len cc⟩:VF)))(j:f.code.length=len)(c:at_<len)(g:i<4)(r:Cr z):(∃a f',Bs u (U.setCell ⟨gc,at_*4+i,none⟩ (iZ z)) s p (Ab v F cs a ts D)/\PB n ⟨F.map Prod.fst,cs,a.map Prod.fst,ts⟩/\a[q]?=some (f',(⟨pv,lv,sG gc len cc⟩:VF))/\f'.code.length=len)/\U.frozen? ⟨gc,at_*4+i,none⟩=false:=by
 obtain⟨G1,G2,rfl,rfl⟩:=Fw m;subst j;have k:=an c;have d:f∈(G1++(f,(⟨pv,lv,sG gc f.code.length cc⟩:VF))::G2).map Prod.fst:=sP;have hw:=b.wf.funcs f d;obtain⟨h1,h2⟩:=h.ins (at_*4+i) (iZ z) (f.code.set at_ (f.code[at_].iE i z)) (lw ..) (L7 k g);refine⟨⟨_,⟨f.params,f.result,f.locals,f.code.set at_ (f.code[at_].iE i z)⟩,h1,b.jy lR (by simpa using b.fs f d) ⟨hw.params,hw.result,hw.locals,fun x l=> ?_⟩,sP,sP⟩,h2⟩;rcases mM l with e|e
 . exact hw.code x e
 rw[e];exact Qt (hw.code _ (ku c)) i r
theorem I5{v:VP}(h:Bs u U s p (Ab v F cs G ts [gb P v,gb RB vN]))(c:PB n ⟨F.map Prod.fst,cs,G.map Prod.fst,ts⟩)(g:G[q]?=some (f,(⟨pv,lv,sG gc len cc⟩:VF)))(e:f.code.length=len)(b:at_<len)(d:i<4)(j:Cr z):Be u (U.setCell ⟨gc,at_*4+i,none⟩ (iZ z)) s p P RB (n+1) v/\U.frozen? ⟨gc,at_*4+i,none⟩=false:=by obtain⟨⟨k,f',h1,h2,_⟩,a⟩:=My h c g e b d j;exact⟨(Be.of h1 h2).mono oM,a⟩
theorem Kl{v:VP}(h:Bs u U s p (Ab v F cs G ts [gb P v,gb RB vN]))(z:PB n ⟨F.map Prod.fst,cs,G.map Prod.fst,ts⟩)(B:G[q]?=some (f,(⟨pv,lv,sG gc len cc⟩:VF)))(A:f.code.length=len)(a:at_<len){b c d e:Int}(x:Cr b)(h1:Cr c)(h2:Cr d)(y:Cr e):Be u ((((U.setCell ⟨gc,at_*4,none⟩ (iZ b)).setCell ⟨gc,at_*4+1,none⟩ (iZ c)).setCell ⟨gc,at_*4+2,none⟩ (iZ d)).setCell ⟨gc,at_*4+3,none⟩ (iZ e)) s p P RB (n+1) v:=by obtain⟨⟨C,f',g,j,k,l⟩,E⟩:=My (i:=0) h z B A a oM x;obtain⟨⟨G2,f2,c1,c2,c3,c4⟩,c5⟩:=My (i:=1) g j k l a oM h1;obtain⟨⟨D,f3,m,r,t,w⟩,H⟩:=My (i:=2) c1 c2 c3 c4 a oM h2;exact(I5 (i:=3) m r t w a oM y).1
theorem Df{x:MI}(h:Bs u U s p (Ab v F cs G ts D))(k:G[q]?=some (f,(⟨pv,lv,sG gc len cc⟩:VF)))(i:f.code.length=len)(e:f.code[at_]?=some x):(U.cell? ⟨gc,at_*4,none⟩=some (iZ x.op)/\U.cell? ⟨gc,at_*4+1,none⟩=some (iZ x.a)/\U.cell? ⟨gc,at_*4+2,none⟩=some (iZ x.b)/\U.cell? ⟨gc,at_*4+3,none⟩=some (iZ x.c))/\(U.frozen? ⟨gc,at_*4,none⟩=false/\U.frozen? ⟨gc,at_*4+1,none⟩=false/\U.frozen? ⟨gc,at_*4+2,none⟩=false/\U.frozen? ⟨gc,at_*4+3,none⟩=false):=by
 subst i;have l:=(d7.1 e).1;have m:A3 (sG gc f.code.length cc) f.code∈Ab v F cs G ts D:=by have:A3 (sG gc f.code.length cc) f.code∈AV G:=lP.2 ⟨_,d9 k,by simp[Bl]⟩;simp[Ab,this]
 have o:U.ownsRow u.heap.size 96 4 (sG gc f.code.length cc) f.code.length (f.code.flatMap MI.cells):=h.sep.own _ m;have d:∀j,j<4->U.cell? ⟨gc,at_*4+j,none⟩=x.cells[j]?:=fun j g=>by rw[kW o (at_*4+j) oM,CQ MI.cells 4 MI.aK f.code at_ j _ e g]
 exact⟨⟨d 0 oM,d 1 oM,d 2 oM,d 3 oM⟩,kx o _,kx o _,kx o _,kx o _⟩
theorem RH(h:Bs u U s p (Ab v F cs G ts D))(b:G[q]?=some (f,(⟨pv,lv,cv⟩:VF))):U.ownsRow u.heap.size 2 1 lv f.locals.length (f.locals.flatMap Ad)/\U.ownsRow u.heap.size 96 4 cv f.code.length (f.code.flatMap MI.cells):=by
 have m:∀r∈Bl (f,(⟨pv,lv,cv⟩:VF)),r∈Ab v F cs G ts D:=fun r a=>by have:r∈AV G:=lP.2 ⟨_,d9 b,a⟩;simp[Ab,this]
 exact⟨h.sep.own _ (m (Ay lv f.locals) (by simp[Bl])),h.sep.own _ (m (A3 cv f.code) (by simp[Bl]))⟩
theorem LY(h:Bs u U s p (Ab v F cs G ts D))(a:G[q]?=some (f,(⟨pv,lv,cv⟩:VF)))(b:v.f=sG gf G.length cf):U.cell? ⟨gf,q*4+3,none⟩=some cv/\U.cell? ⟨gf,q*4+2,none⟩=some lv:=by have c:=(d7.1 a).1;have o:=h.gK.2.2.2.1;rw[b]at o;exact⟨by rw[kW o (q*4+3) oM,CQ AJ 4 Aj G q 3 _ a oM];rfl,by rw[kW o (q*4+2) oM,CQ AJ 4 Aj G q 2 _ a oM];rfl⟩
theorem PZ(h:Bs u U s p (Ab v F cs G ts D))(b:G[q]?=some (f,(⟨pv,lv,cv⟩:VF)))(a:v.f=sG gf G.length cf):U.cell? ⟨gf,q*4+2,none⟩=some lv:=(LY h b a).2
theorem I6(h:Bs u U s p (Ab v F cs G ts D))(d:ts[k]?=some x)(a:v.t=sG gt ts.length ct):(U.cell? ⟨gt,k*4+1,none⟩=some (iZ x.head)/\U.cell? ⟨gt,k*4+2,none⟩=some (iZ x.counter)/\U.cell? ⟨gt,k*4+3,none⟩=some (.int .u32 x.init))/\(U.frozen? ⟨gt,k*4+1,none⟩=false/\U.frozen? ⟨gt,k*4+2,none⟩=false/\U.frozen? ⟨gt,k*4+3,none⟩=false):=by obtain⟨g,c,e,_,h1,h2,b⟩:=h.ct d;rw[a]at e;simp only[ip,i4,lF,lp,kU]at e;obtain⟨rfl,rfl⟩:=e;have o:=h.gK.2.2.2.2;rw[a]at o;exact⟨⟨h1,h2,b⟩,kx o _,kx o _,kx o _⟩
theorem T4{x:MC}(h:Bs u U s p (Ab v F cs G ts D))(b:cs[k]?=some x)(a:v.k=sG gt cs.length ct):(U.cell? ⟨gt,k*2,none⟩=some (iZ x.type)/\U.cell? ⟨gt,k*2+1,none⟩=some (.int .u32 x.word))/\(U.frozen? ⟨gt,k*2,none⟩=false/\U.frozen? ⟨gt,k*2+1,none⟩=false):=by obtain⟨g,c,e,h1,h2⟩:=h.kt b;rw[a]at e;simp only[ip,i4,lF,lp,kU]at e;obtain⟨rfl,rfl⟩:=e;have o:=h.gK.2.2.1;rw[a]at o;exact⟨⟨h1,h2⟩,kx o _,kx o _⟩
theorem Nz{a:Value}(h:Bs u U s p (Ab v F cs G ts D))(b:F[k]?=some (r,a))(d:v.r=sG gr F.length cr):U.cell? ⟨gr,k,none⟩=some a/\U.ownsRow u.heap.size 2 1 a r.length (r.flatMap Ad):=by have o:=h.gK.2.1;rw[d]at o;have e:=(d7.1 b).1;have c:=CQ Bi 1 (fun _=>rfl) F k 0 (r,a) b oM;rw[kn,kD]at c;refine⟨by rw[kW o k oM,c];rfl,h.sep.own (Ay a r) ?_⟩;have:Ay a r∈A5 F:=lL.2 ⟨_,d9 b,rfl⟩;simp[Ab,this]
theorem Bs.fhd(h:Bs w u s p (AP v.f (G1++y::G2)::R))(a:v.f=sG gf (G1++y::G2).length cf)(g:j<4)(x:Value)(e:AJ y'=(AJ y).set j x):Bs w (u.setCell ⟨gf,G1.length*4+j,none⟩ x) s p (AP v.f (G1++y'::G2)::R)/\u.frozen? ⟨gf,G1.length*4+j,none⟩=false:=by
 have b:AP v.f (G1++y::G2)=⟨68,4,sG gf (G1++y::G2).length cf,(G1++y::G2).length,(G1++y::G2).flatMap AJ⟩:=by simp[AP,a]
 rw[b]at h;have h2:=Bs.iG h (G1.length*4+j) x;rw[Ia AJ 4 Aj G1 G2 j y y' x g e]at h2;refine⟨?_,h2.2⟩;have d:=h2.1;have c:(⟨68,4,sG gf (G1++y::G2).length cf,(G1++y::G2).length,(G1++y'::G2).flatMap AJ⟩:Ax)=AP v.f (G1++y'::G2):=by simp[AP,a]
 rwa [c]at d
theorem VV{v:VP}(h:Bs u U s p (Ab v F cs G ts [gb P v,gb RB vN]))(a:PB n ⟨F.map Prod.fst,cs,G.map Prod.fst,ts⟩)(d:G[q]?=some y)(c:v.f=sG gf G.length cf)(e:Cr z):Be u (U.setCell ⟨gf,q*4+1,none⟩ (iZ z)) s p P RB (n+1) v/\U.frozen? ⟨gf,q*4+1,none⟩=false:=by obtain⟨G1,G2,rfl,rfl⟩:=Fw d;obtain⟨f,g⟩:=y;have b:f∈(G1++(f,g)::G2).map Prod.fst:=sP;have hw:=a.wf.funcs f b;obtain⟨h1,h2⟩:=h.gT c z;exact⟨(Be.of h1 (a.jy lR (by simpa using a.fs f b) ⟨hw.params,e,hw.locals,hw.code⟩)).mono oM,h2⟩
theorem VT{v:VP}(h:Bs u U s p (Ab v F cs G ts [gb P v,gb RB vN]))(a:PB n ⟨F.map Prod.fst,cs,G.map Prod.fst,ts⟩)(g:G[q]?=some (f,(⟨pv,lv,cv⟩:VF)))(d:v.f=sG gf G.length cf)(D:Cr z)(B:U'.ownsRow u.heap.size 2 1 V (f.locals.length+1) (f.locals.flatMap Ad++[iZ z]))(y:U.grownBy U' lv.ownBlock)(w:V.ownBlock=lv.ownBlock\/V.ownBlock=some U.heap.size):Be u (U'.setCell ⟨gf,q*4+2,none⟩ V) s p P RB (n+1) v/\U'.frozen? ⟨gf,q*4+2,none⟩=false/\U'.cell? ⟨gf,q*4+2,none⟩=some lv:=by
 have E:=(d7.1 g).1;obtain⟨G1,G2,rfl,rfl⟩:=Fw g;have c:f∈(G1++(f,(⟨pv,lv,cv⟩:VF))::G2).map Prod.fst:=sP;have hw:=a.wf.funcs f c;have H:=a.fs f c;have h1:=h.perm (M:=Ay lv f.locals::(AP v.f (G1++(f,(⟨pv,lv,cv⟩:VF))::G2)::(Bf v.r F::A5 F++(Cd v.k cs::(AV G1++(Ay pv f.params::A3 cv f.code::(AV G2++(BS v.t ts::[gb P v,gb RB vN])))))))) (Bn fun inst q=>by simp only[Ab,AV,Bl,kO,kG,kl,kj,lC,kL];omega);have h2:=Bs.en (A:=[]) h1 (Ay V (f.locals++[z])) (by simpa[Ax.own,Ay,Ad]using B) y w;have b:=h2.perm (M:=AP v.f (G1++(f,(⟨pv,lv,cv⟩:VF))::G2)::(Ay V (f.locals++[z])::(Bf v.r F::A5 F++(Cd v.k cs::(AV G1++(Ay pv f.params::A3 cv f.code::(AV G2++(BS v.t ts::[gb P v,gb RB vN])))))))) (Bn fun inst q=>by simp only[kf,kj];omega);have i:U'.ownsRow u.heap.size 68 4 v.f (G1++(f,(⟨pv,lv,cv⟩:VF))::G2).length ((G1++(f,(⟨pv,lv,cv⟩:VF))::G2).flatMap AJ):=b.sep.own _ (lS ..);obtain⟨l,m⟩:=b.fhd d (j:=2) (y':=((⟨f.params,f.result,f.locals++[z],f.code⟩:MF),(⟨pv,V,cv⟩:VF))) oM V rfl;refine⟨Be.of (l.perm (Bn fun inst q=> ?_)) (a.jy (f':=⟨f.params,f.result,f.locals++[z],f.code⟩) (vf':=⟨pv,V,cv⟩) oM ?_ ⟨hw.params,hw.result,fun x C=> ?_,hw.code⟩),m,?_⟩
 . simp only[Ab,AV,Bl,kO,kG,kl,kj,lC,kL];omega
 . simp only[f6,kY,kp];omega
 . rcases kB.1 C with e|e
   . exact hw.locals x e
   rw[kM.1 e];exact D
 rw[d]at i;rw[kW i (G1.length*4+2) (by simp only[f6,kY];omega),CQ AJ 4 Aj _ G1.length 2 (f,(⟨pv,lv,cv⟩:VF)) sP oM];rfl
theorem VS{v:VP}{code:List MI}(h:Bs u U s p (Ab v F cs G ts (A3 V code::[gb P v,gb RB vN])))(a:PB n ⟨F.map Prod.fst,cs,G.map Prod.fst,ts⟩)(j:G[q]?=some (f,(⟨pv,lv,cv⟩:VF)))(i:v.f=sG gf G.length cf)(g:code.length<=n)(hw:∀x∈code,x.wf):Be u (U.setCell ⟨gf,q*4+3,none⟩ V) s p P RB (n+1) v/\U.frozen? ⟨gf,q*4+3,none⟩=false/\U.cell? ⟨gf,q*4+3,none⟩=some cv:=by obtain⟨G1,G2,rfl,rfl⟩:=Fw j;have c:f∈(G1++(f,(⟨pv,lv,cv⟩:VF))::G2).map Prod.fst:=sP;have b:=a.wf.funcs f c;have d:=a.fs f c;obtain⟨h1,h2,e⟩:=h.jd i;exact⟨(Be.of h1 (a.jy lR ⟨d.1,d.2.1,g⟩ ⟨b.params,b.result,b.locals,hw⟩)).mono oM,e,h2⟩
theorem RJ{v:VP}{x':MT}{y:Value}(h:Bs u U s p (Ab v F cs G ts [gb P v,gb RB vN]))(c:PB n ⟨F.map Prod.fst,cs,G.map Prod.fst,ts⟩)(w:ts[k]?=some x)(d:v.t=sG gt ts.length ct)(m:j<4)(l:x'.cells=x.cells.set j y)(hw:x'.wf):Be u (U.setCell ⟨gt,k*4+j,none⟩ y) s p P RB (n+1) v/\U.frozen? ⟨gt,k*4+j,none⟩=false:=by
 obtain⟨a,b,rfl,rfl⟩:=Fw w;have g:BS v.t (a++x::b)=⟨72,4,sG gt (a++x::b).length ct,(a++x::b).length,(a++x::b).flatMap MT.cells⟩:=by simp[BS,d]
 have h1:=h.perm (M:=BS v.t (a++x::b)::(Bf v.r F::A5 F++(Cd v.k cs::(AP v.f G::AV G++[gb P v,gb RB vN])))) (Bn fun inst q=>by simp only[Ab,kl,kj,lC,kL];omega);rw[g]at h1;have h2:=Bs.iG h1 (a.length*4+j) y;rw[Ia MT.cells 4 MT.aK a b j x x' y m l]at h2;have i:(⟨72,4,sG gt (a++x::b).length ct,(a++x::b).length,(a++x'::b).flatMap MT.cells⟩:Ax)=BS v.t (a++x'::b):=by simp[BS,d]
 rw[i]at h2;refine⟨(Be.of (ts:=a++x'::b) (h2.1.perm (Bn fun inst q=> ?_)) (c.jK lR (by simpa using c.tl) fun z A=> ?_)).mono oM,h2.2⟩
 . simp only[Ab,kl,kj,lC,kL];omega
 rcases kB.1 A with e|e
 . exact c.wf.a7 z (kB.2 (.inl e))
 rcases ka.1 e with e|e
 . rw[e];exact hw
 exact c.wf.a7 z (kB.2 (.inr (kw _ e)))
theorem RI{x x':MC}{y:Value}(h:Bs u U s p (Ab v F cs G ts D))(d:PB n ⟨F.map Prod.fst,cs,G.map Prod.fst,ts⟩)(A:cs[k]?=some x)(g:v.k=sG gt cs.length ct)(w:j<2)(m:x'.cells=x.cells.set j y)(hw:x'.wf):(∃c,c.length=cs.length/\c[k]?=some x'/\Bs u (U.setCell ⟨gt,k*2+j,none⟩ y) s p (Ab v F c G ts D)/\PB n ⟨F.map Prod.fst,c,G.map Prod.fst,ts⟩)/\U.frozen? ⟨gt,k*2+j,none⟩=false:=by
 obtain⟨a,b,rfl,rfl⟩:=Fw A;have i:Cd v.k (a++x::b)=⟨63,2,sG gt (a++x::b).length ct,(a++x::b).length,(a++x::b).flatMap MC.cells⟩:=by simp[Cd,g]
 have h1:=h.perm (M:=Cd v.k (a++x::b)::(Bf v.r F::A5 F++(AP v.f G::AV G++(BS v.t ts::D)))) (Bn fun inst q=>by simp only[Ab,kl,kj,kL];omega);rw[i]at h1;have h2:=Bs.iG h1 (a.length*2+j) y;rw[Ia MC.cells 2 MC.aK a b j x x' y w m]at h2;have l:(⟨63,2,sG gt (a++x::b).length ct,(a++x::b).length,(a++x'::b).flatMap MC.cells⟩:Ax)=Cd v.k (a++x'::b):=by simp[Cd,g]
 rw[l]at h2;refine⟨⟨a++x'::b,sP,sP,h2.1.perm (Bn fun inst q=> ?_),d.cs1 (by simpa using d.cl) fun z B=> ?_⟩,h2.2⟩
 . simp only[Ab,kl,kj,kL];omega
 rcases kB.1 B with e|e
 . exact d.wf.ag z (kB.2 (.inl e))
 rcases ka.1 e with e|e
 . rw[e];exact hw
 exact d.wf.ag z (kB.2 (.inr (kw _ e)))
theorem RG{v v':VP}{x:MP}{F':List (List Int×Value)}(h:Bs u U s p (Ab v F cs G ts [gb P v,gb RB vN]))(g:k<4)(d:[v'.r,v'.k,v'.f,v'.t]=[v.r,v.k,v.f,v.t].set k V)(b:F'.map Prod.fst=x.aB)(c:G.map Prod.fst=x.funcs)(i:∀a,Nb a v ⟨F.map Prod.fst,cs,G.map Prod.fst,ts⟩ F G->Nb a v' x F' G)(e:PB n x):Be u (U.setCell ⟨P,k,none⟩ V) s p P RB n v':=by have h1:=Bs.gL (D:=[]) (E:=[gb RB vN]) (X:=P) (t:=29) (q:=4) (xs:=[v.r,v.k,v.f,v.t]) h k g V;rw[<-d]at h1;exact⟨h1.sub (by rw[Dt];exact List.sublist_append_right _ _),⟨x,F',G,b,c,fun a j=>i a (h1.rdB sP a j),e⟩⟩
theorem Jn{w:World}{k n c:Nat}(h:w.ownsRow base e k (.slice a n c) n xs):n<=c:=by
 rcases h.2 with⟨e,d⟩|⟨g,cap,b,e,_,_,f,_⟩
 . omega
 simp only[ip]at e;omega
theorem Rd.tail{u:World}{k n c i g:Nat}(h:Rd u k (sG g n c) n xs)(d:i<=n)(e:n<=c)(a:a'=if c=i then some ⟨g,0,none⟩else some ⟨g,i*k,none⟩)(c':Nat):Rd u k (.slice a' (n-i) c') (n-i) (xs.drop (i*k)):=by
 by_cases b:c=i
 . rw[lI b]at a;have h1:=h.back d c';exact⟨h1.1,.inl ⟨oM,a',c',by rw[show n-i=0 from oM]⟩⟩
 rw[lE b]at a;subst a;have:=h.back d c';rwa [ki]at this
theorem T5{v:VP}(h:Bs u U s p (Ab v F cs G ts [gb P v,gb RB vN]))(a:PB n ⟨F.map Prod.fst,cs,G.map Prod.fst,ts⟩)(c:v.t=sG gt ts.length ct)(g:1<=ts.length)(d:a'=if ct=1 then some ⟨gt,0,none⟩else some ⟨gt,4,none⟩):Be u (U.setCell ⟨P,3,none⟩ (.slice a' (ts.length-1) c')) s p P RB (n+1) {v with t:=.slice a' (ts.length-1) c'}:=by have o:=h.gK.2.2.2.2;rw[c]at o;refine(RG (n:=n) (k:=3) (v':={v with t:=.slice a' (ts.length-1) c'}) (V:=.slice a' (ts.length-1) c') (x:=⟨F.map Prod.fst,cs,G.map Prod.fst,ts.drop 1⟩) (F':=F) h oM rfl rfl rfl (fun l q=>⟨q.r,q.rr,q.k,q.f,q.ff,?_⟩) (a.jK lR (by have:=a.tl;simp only[lN]at this⊢;omega) fun z j=>a.wf.a7 z (mx j))).mono (n':=n+1) oM;have b:=q.t;rw[c]at b;have:=b.tail (i:=1) g (Jn o) d c';have e:=(I9 MT.cells 4 MT.aK ts 1).2;show Rd l 4 (.slice a' (ts.length-1) c') (ts.drop 1).length ((ts.drop 1).flatMap MT.cells);rw[e,lN];exact this
theorem VU{v:VP}(h:Bs u U s p (Ab v F cs G ts [gb P v,gb RB vN]))(d:PB n ⟨F.map Prod.fst,cs,G.map Prod.fst,ts⟩)(i:v.r=.slice a F.length cr)(g:2<=F.length):Be u (U.setCell ⟨P,0,none⟩ (.slice a 2 c')) s p P RB (n+1) {v with r:=.slice a 2 c'}:=by
 refine(RG (n:=n) (k:=0) (v':={v with r:=.slice a 2 c'}) (V:=.slice a 2 c') (x:=⟨(F.take 2).map Prod.fst,cs,G.map Prod.fst,ts⟩) (F':=F.take 2) h oM rfl rfl rfl (fun j q=>⟨?_,fun y c=>q.rr y (lz c),q.k,q.f,q.ff,q.t⟩) (d.rs1 lR (by simp only[kZ,lB];omega) (fun r b=> ?_) (fun r b=> ?_))).mono (n':=n+1) oM
 . have b:=q.r;rw[i]at b;simp only[kZ]at b;have:=b.front (m:=2) (by simpa using Av Bi 1 (fun _=>rfl) F) g c';have e:=(I9 Bi 1 (fun _=>rfl) F 2).1;show Rd j 1 (.slice a 2 c') ((F.take 2).map Prod.fst).length ((F.take 2).flatMap Bi);rw[e,kZ,lB,Nat.min_eq_left g];exact this
 . obtain⟨y,c,rfl⟩:=lL.1 b;exact d.rg _ (lL.2 ⟨y,lz c,rfl⟩)
 obtain⟨y,c,rfl⟩:=lL.1 b;exact d.wf.aB _ (lL.2 ⟨y,lz c,rfl⟩)
theorem Uq(h:Bs u U s p (Ab v F cs G ts D)):Bs u (U.alloc (.cells #[] 96)) s p (Ab v F cs G ts (A3 (sG U.heap.size 0 0) []::D)):=(h.row (r:=A3 (sG U.heap.size 0 0) []) (Aa _ _) (BK U _ _)).perm (Bn fun inst q=>by simp only[Ab,kl,kj,lC,kL];omega)
theorem P5(h:Bs u U s p (Ab v F cs G ts D))(b:G[q]?=some (f,(⟨pv,lv,sG gc f.code.length cc⟩:VF)))(c:at_<f.code.length):Rd U 4 (sG gc at_ cc) at_ ((f.code.take at_).flatMap MI.cells)/\∀(a':Option Addr) (c':Nat),(if cc=at_+1 then some (⟨gc,0,none⟩:Addr)else some ⟨gc,(at_+1)*4,none⟩)=a'->Rd U 4 (.slice a' (f.code.length-(at_+1)) c') (f.code.length-(at_+1)) ((f.code.drop (at_+1)).flatMap MI.cells):=by have o:=(RH h b).2;have a:=Rd.cB o;rw[(I9 MI.cells 4 MI.aK f.code at_).1,(I9 MI.cells 4 MI.aK f.code (at_+1)).2];exact⟨a.front (Av MI.cells 4 MI.aK _) oM cc,fun a' c' e=>a.tail oM (Jn o) e.symm c'⟩
theorem Us{v:VP}(h:Bs u U s p (Ab v F cs G ts [gb P v,gb RB vN]))(b:PB n ⟨F.map Prod.fst,cs,G.map Prod.fst,ts⟩)(hw:x.wf)(g:U'.ownsRow u.heap.size 72 4 V (ts.length+1) (ts.flatMap MT.cells++x.cells))(d:U.grownBy U' v.t.ownBlock)(c:V.ownBlock=v.t.ownBlock\/V.ownBlock=some U.heap.size):Be u (U'.setCell ⟨P,3,none⟩ V) s p P RB (n+1) {v with t:=V}/\U'.frozen? ⟨P,3,none⟩=false/\U'.cell? ⟨P,3,none⟩=some v.t/\U'.cell? ⟨P,2,none⟩=some v.f:=by
 have h1:=h.hH x V g d c;have h2:=Bs.gL (D:=[]) (E:=[gb RB vN]) (X:=P) (t:=29) (q:=4) (xs:=[v.r,v.k,v.f,v.t]) h1 3 oM V;have a:=h1.four (P:=P) (v:=v) (by simp[Ab]);refine⟨Be.of h2 (b.jK oM (by have:=b.tl;simp only[f6,kY,kp]at this⊢;omega) fun z i=> ?_),a.2.2.2.2,a.1.2.2.2,a.1.2.2.1⟩;rcases kB.1 i with e|e
 . exact b.wf.a7 z e
 rw[kM.1 e];exact hw
theorem Ur{v:VP}{c:Value}(h:Bs u U s p (Ab v F cs G ts [gb P v,gb RB vN]))(d:PB n ⟨F.map Prod.fst,cs,G.map Prod.fst,ts⟩)(L:F[k]?=some (r,c))(B:v.r=sG gr F.length cr)(O:Cr z)(N:U'.ownsRow u.heap.size 2 1 V (r.length+1) (r.flatMap Ad++[iZ z]))(K:U.grownBy U' c.ownBlock)(I:V.ownBlock=c.ownBlock\/V.ownBlock=some U.heap.size):Be u (U'.setCell ⟨gr,k,none⟩ V) s p P RB (n+1) v/\U'.frozen? ⟨gr,k,none⟩=false/\U'.cell? ⟨gr,k,none⟩=some c/\U'.cell? ⟨P,0,none⟩=some v.r:=by
 obtain⟨a,b,rfl,rfl⟩:=Fw L;have h1:=h.perm (M:=Ay c r::(Bf v.r (a++(r,c)::b)::(A5 a++A5 b++(Cd v.k cs::(AP v.f G::AV G++(BS v.t ts::[gb P v,gb RB vN])))))) (Bn fun inst q=>by simp only[Ab,A5,lW,mL,kl,kj,lC,kL];omega);have h2:=Bs.en (A:=[]) h1 (Ay V (r++[z])) (by simpa[Ax.own,Ay,Ad]using N) K I;have E:Bf v.r (a++(r,c)::b)=⟨58,1,sG gr (a++(r,c)::b).length cr,(a++(r,c)::b).length,(a++(r,c)::b).flatMap Bi⟩:=by simp[Bf,B]
 have j:=h2.perm (M:=Bf v.r (a++(r,c)::b)::(Ay V (r++[z])::(A5 a++A5 b++(Cd v.k cs::(AP v.f G::AV G++(BS v.t ts::[gb P v,gb RB vN])))))) (Bn fun inst q=>by simp only[kf,kj];omega);rw[E]at j;have Q:U'.ownsRow u.heap.size 58 1 (sG gr (a++(r,c)::b).length cr) (a++(r,c)::b).length ((a++(r,c)::b).flatMap Bi):=j.sep.own _ (lS ..);have i:=Bs.iG j a.length V;have l:=Ia Bi 1 (fun _=>rfl) a b 0 (r,c) (r++[z],V) V oM rfl;rw[kn,kD]at l;rw[l]at i;have H:(⟨58,1,sG gr (a++(r,c)::b).length cr,(a++(r,c)::b).length,(a++(r++[z],V)::b).flatMap Bi⟩:Ax)=Bf v.r (a++(r++[z],V)::b):=by simp[Bf,B]
 rw[H]at i;have w:∀x∈(a++(r++[z],V)::b).map Prod.fst,x=r++[z]\/x∈(a++(r,c)::b).map Prod.fst:=fun x g=>by
  simp only[lW,mL,kB,ka]at g⊢;rcases g with h|h|h
  . exact .inr (.inl h)
  . exact .inl h
  exact .inr (.inr (.inr h))
 have y:r∈(a++(r,c)::b).map Prod.fst:=sP;refine⟨Be.of (F:=a++(r++[z],V)::b) (i.1.perm (Bn fun inst q=> ?_)) (d.rs1 oM (by simpa using d.rl) (fun x g=> ?_) fun x g D C=> ?_),i.2,?_,(h2.four (P:=P) (v:=v) sP).1.1⟩
 . simp only[Ab,A5,lW,mL,kl,kj,lC,kL];omega
 . rcases w x g with rfl|e
   . have:=d.rg r y;simp only[f6,kY,kp];omega
   have:=d.rg x e;omega
 . rcases w x g with rfl|e
   . rcases kB.1 C with e|e
     . exact d.wf.aB r y D e
     rw[kM.1 e];exact O
   exact d.wf.aB x e D C
 have J:=kW Q a.length (by simp only[f6,kY];omega);have m:=CQ Bi 1 (fun _=>rfl) (a++(r,c)::b) a.length 0 (r,c) sP oM;rw[kn,kD]at m;rw[J,m];rfl
end
def Tp(d:List Int)(w:World)(e:Ending)(b:World):Prop:=∃(c:Int) (v:VP) (F:List (List Int×Value)) (a:List MC) (G:List (MF×VF)) (ts:List MT),e=.returned (.agg #[iZ c,v.r,v.k,v.f,v.t])/\CJ b w.heap.size (Ab v F a G ts [])/\MP.small ⟨F.map Prod.fst,a,G.map Prod.fst,ts⟩/\DQ d c ⟨F.map Prod.fst,a,G.map Prod.fst,ts⟩/\Below w.heap.size w b
theorem KK(a:Option Addr)(L c:Nat)(x:List Int)(w:World)(hL:L<=1048576)(hc:L<=c)(ht:D3 w)(W:EW w)(h:Cj w (.slice a L c) L (x.map (Value.int .u8)))(hz:C7 x):
 Calls Tryz.prog 5 #[.slice a L c] w (Tp x w):=by
 have s:Hid (Dw w (w.alloc (.cells #[iZ 0,As,As,As,As] 31)) (iZ 0) As As As As):=⟨Aw.new _ _ _,Aa _ _⟩;have H:=Ag (f7 h (f7 hz (f7 ht W)));clear h hz ht W;go_enter Tryz.func5,Tryz.ntmps5;go_upto_region 1 with fail
 refine Ao (fun u=>Hid (Dw w u (iZ 0) As As As As)) s ?_;clear s;intro K s;have z:=s.o.aC;go_wp2_with fail;refine(Ki a L c x K hL hc (fun j X=>by rw[z.cell (d5 (H.o.2.2.1 j X))];exact H.o.2.2.1 j X) (H.o.1.aa z) H.o.2.1).mono ?_;rintro e u1 ⟨b,v,F,f,G,ts,rfl,V,B,Z,U⟩;obtain⟨i,n,k,p,l,q,m,r,rfl⟩:=EQ B;have hR:w.heap.size<K.heap.size:=s.o.cC.lt;have M:=Ag (s.o.aa U);have S:=Ag B;have A:=Ag (f7 V Z);clear B V Z U s z;go_upto_region 2 with fail
 refine Ao (fun u=>Hid (Dw w u (iZ 0) As As As As/\CJ u K.heap.size (Ab ⟨.slice i F.length n,.slice k f.length p,.slice l G.length q,.slice m ts.length r⟩ F f G ts [])/\Aw u u1.heap.size #[.slice i F.length n,.slice k f.length p,.slice l G.length q,.slice m ts.length r] 29)) ⟨M.o.aa (Aa _ _),S.o.aa (Aa _ _),Aw.new _ _ _⟩ ?_
 clear M S;generalize u1.heap.size=Y;intro g d;by_cases y:b=0
 . subst y;have a6:=Ag d.o.1;obtain⟨⟨q0,q1,q2,q3,q4⟩,f0,f1,f2,f3,f4⟩:=d.o.1.cells;have y0:g.cell? ⟨Y,0,none⟩=some (.slice i F.length n):=d.o.2.2.cell 0;have y1:g.cell? ⟨Y,1,none⟩=some (.slice k f.length p):=d.o.2.2.cell 1;have y2:g.cell? ⟨Y,2,none⟩=some (.slice l G.length q):=d.o.2.2.cell 2;have y3:g.cell? ⟨Y,3,none⟩=some (.slice m ts.length r):=d.o.2.2.cell 3;rw[show GX 0=.nilIface from rfl];go_wp2;have t:=Ag (a6.o.set (iZ 0) (.slice i F.length n) (.slice k f.length p) (.slice l G.length q) (.slice m ts.length r));have Q:=Ag (d.o.2.1.j7 (R:=w.heap.size) oM (iZ 0) (.slice i F.length n) (.slice k f.length p) (.slice l G.length q) (.slice m ts.length r));generalize ((((g.setCell ⟨w.heap.size,0,none⟩ (iZ 0)).setCell ⟨w.heap.size,1,none⟩ (.slice i F.length n)).setCell ⟨w.heap.size,2,none⟩ (.slice k f.length p)).setCell ⟨w.heap.size,3,none⟩ (.slice l G.length q)).setCell ⟨w.heap.size,4,none⟩ (.slice m ts.length r)=WF at t Q⊢;obtain⟨⟨C,D,E,I,J⟩,-⟩:=t.o.cells;exact i6 (v:=.agg #[iZ 0,.slice i F.length n,.slice k f.length p,.slice l G.length q,.slice m ts.length r]) (by simp[results,Tryz.results5,go_sem,C,D,E,I,J]) rfl ⟨0,⟨.slice i F.length n,.slice k f.length p,.slice l G.length q,.slice m ts.length r⟩,F,f,G,ts,rfl,Q.o.base oM,A.o.2,by have:=A.o.1;simpa using this,t.o.aC⟩
 have a8:Hid (DQ x b JH):=by have:=A.o.1;rwa [lE y]at this
 have O:Hid (EW g):=by have:=H.o.2.2.2;unfold EW at*;show _=_;rw[d.o.1.aC.cell (d5 this)];exact this
 have P:Hid (Calls Tryz.prog 11 #[.iface 80 (iZ b)] g fun e w'=>e=.returned (iZ b)/\Below g.heap.size g w'):=by have:=Ke b g O.o;rw[show GX b=.iface 80 (iZ b)from lE y]at this;exact this
 rw[show GX b=.iface 80 (iZ b)from lE y];go_wp2_with fail;refine P.o.mono ?_;rintro e u3 ⟨rfl,T⟩;have N:=Ag (d.o.1.aa T);clear T P O d;obtain⟨⟨q0,q1,q2,q3,q4⟩,f0,f1,f2,f3,f4⟩:=N.o.cells;go_wp2;have t:=Ag (N.o.set (iZ b) As As As As);generalize ((((u3.setCell ⟨w.heap.size,0,none⟩ (iZ b)).setCell ⟨w.heap.size,1,none⟩ As).setCell ⟨w.heap.size,2,none⟩ As).setCell ⟨w.heap.size,3,none⟩ As).setCell ⟨w.heap.size,4,none⟩ As=WF at t⊢;obtain⟨⟨C,D,E,I,J⟩,-⟩:=t.o.cells;exact i6 (v:=.agg #[iZ b,As,As,As,As]) (by simp[results,Tryz.results5,go_sem,C,D,E,I,J]) rfl ⟨b,(⟨sN,sN,sN,sN⟩:VP),[],[],[],[],rfl,Qs _ _,DD,a8.o,t.o.aC⟩
end Go.Proofs.YthjbicggfnnonaaGreatDoor
