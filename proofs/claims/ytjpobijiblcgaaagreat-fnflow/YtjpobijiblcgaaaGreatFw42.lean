import Derived.Test.YtjpobijiblcgaaaGreatFw0
import Derived.Test.YtjpobijiblcgaaaGreatFw34
import Derived.Test.YtjpobijiblcgaaaGreatFw32
import Derived.OpenShut
import Derived.Test.YtjpobijiblcgaaaGreatFw38
import Derived.Test.YtjpobijiblcgaaaGreatFw27
import Derived.Test.YtjpobijiblcgaaaGreatFw12
namespace Go.Proofs.YtjpobijiblcgaaaGreat
open Go.ChangeShapes Go.WideShapes Go.ChangeAt Go.RowKit
set_option linter.unusedVariables false
section
variable {w u:World} {s:Cv} {p:Int} {v:VP} {F:List (List Int×Value)} {cs:List MC} {G1 G2:List (MF×VF)} {ts:List MT} {D:List Av}
theorem Bs.put1{C:List Av}{e:TypeId}{k n c g:Nat}{xs:List Value}(h:Bs w u s p ((⟨e,k,sG g n c,n,xs⟩:Av)::C))(i:Nat)(x:Value):Bs w (u.setCell ⟨g,i,none⟩ x) s p ((⟨e,k,sG g n c,n,xs.set i x⟩:Av)::C)/\u.frozen? ⟨g,i,none⟩=false:=by
 have ho:u.ownsRow w.heap.size e k (sG g n c) n xs:=h.sep.own _ (bc ..);have hlt:=(ho.lt g rfl).1;refine⟨⟨?_,h.bel.setCell hlt _⟩,bz ho i⟩;exact h.sep.put (A:=[]) (r:=⟨e,k,sG g n c,n,xs⟩) (xs.set i x) (ho.stored i x).1 (D2 (⟨rfl,rfl,rfl,Nat.le_refl _,fun _ _ _=>rfl⟩:u.grownBy u (some g)) i x)
theorem Bs.ins{f:MF}{pv lv:Value}{g c:Nat}(h:Bs w u s p (Ae v F cs (G1++(f,(⟨pv,lv,sG g f.code.length c⟩:VF))::G2) ts D))(i:Nat)(x:Value)(code':List MI)(hl:code'.length=f.code.length)(hx:(f.code.flatMap MI.cells).set i x=code'.flatMap MI.cells):Bs w (u.setCell ⟨g,i,none⟩ x) s p (Ae v F cs (G1++((⟨f.params,f.result,f.locals,code'⟩:MF),(⟨pv,lv,sG g f.code.length c⟩:VF))::G2) ts D)/\u.frozen? ⟨g,i,none⟩=false:=by
 have h1:=h.perm (M:=AK (sG g f.code.length c) f.code::(BR v.r F::Bv F++(CQ v.k cs::(A4 v.f (G1++(f,(⟨pv,lv,sG g f.code.length c⟩:VF))::G2)::(A6 G1++(AH pv f.params::AH lv f.locals::(A6 G2++(Cu v.t ts::D)))))))) (AX fun inst q=>by
  simp only[Ae,A6,BQ,a8,aW,bT,bS,bj,ah];omega)
 have h2:=Bs.put1 (e:=43) (k:=4) (n:=f.code.length) (c:=c) (g:=g) (xs:=f.code.flatMap MI.cells) h1 i x;refine⟨?_,h2.2⟩;have h3:=h2.1;rw[hx]at h3;have e:A4 v.f (G1++(f,(⟨pv,lv,sG g f.code.length c⟩:VF))::G2)=A4 v.f (G1++((⟨f.params,f.result,f.locals,code'⟩:MF),(⟨pv,lv,sG g f.code.length c⟩:VF))::G2):=by simp[A4,AN]
 rw[e]at h3;have e2:(⟨43,4,sG g f.code.length c,f.code.length,code'.flatMap MI.cells⟩:Av)=AK (sG g f.code.length c) code':=by simp[AK,hl]
 rw[e2]at h3;refine h3.perm (AX fun inst q=> ?_);simp only[Ae,A6,BQ,a8,aW,bT,bS,bj,ah];omega
theorem Bs.res{f:MF}{vf:VF}{gf cf:Nat}(h:Bs w u s p (Ae v F cs (G1++(f,vf)::G2) ts D))(hv:v.f=sG gf (G1++(f,vf)::G2).length cf)(z:Int):Bs w (u.setCell ⟨gf,G1.length*4+1,none⟩ (iZ z)) s p (Ae v F cs (G1++((⟨f.params,z,f.locals,f.code⟩:MF),vf)::G2) ts D)/\u.frozen? ⟨gf,G1.length*4+1,none⟩=false:=by
 have h1:=h.perm (M:=A4 v.f (G1++(f,vf)::G2)::(BR v.r F::Bv F++(CQ v.k cs::(A6 (G1++(f,vf)::G2)++(Cu v.t ts::D))))) (AX fun inst q=>by
  simp only[Ae,bT,bS,ah];omega)
 have e0:A4 v.f (G1++(f,vf)::G2)=⟨68,4,sG gf (G1++(f,vf)::G2).length cf,(G1++(f,vf)::G2).length,(G1++(f,vf)::G2).flatMap AN⟩:=by simp[A4,hv]
 rw[e0]at h1;have h2:=Bs.put1 h1 (G1.length*4+1) (iZ z);refine⟨?_,h2.2⟩;have h3:=h2.1
 have ex:((G1++(f,vf)::G2).flatMap AN).set (G1.length*4+1) (iZ z)=(G1++((⟨f.params,z,f.locals,f.code⟩:MF),vf)::G2).flatMap AN:=by
  have hl:(G1.flatMap AN).length=G1.length*4:=Ax AN 4 Ao G1;rw[a8,a8,df _ _ (by omega),hl];congr 1
  rw[show G1.length*4+1-G1.length*4=1 by omega];simp[AN]
 have e1:(⟨68,4,sG gf (G1++(f,vf)::G2).length cf,(G1++(f,vf)::G2).length,((G1++(f,vf)::G2).flatMap AN).set (G1.length*4+1) (iZ z)⟩:Av)=A4 v.f (G1++((⟨f.params,z,f.locals,f.code⟩:MF),vf)::G2):=by
  rw[ex];simp[A4,hv]
 rw[e1]at h3;refine h3.perm (AX fun inst q=> ?_);simp only[Ae,A6,BQ,a8,aW,bT,bS,ah];omega
end
section
variable {n n':Nat} {R R':List (List Int)} {cs cs':List MC} {fs:List MF} {ts ts':List MT} {G1 G2:List (MF×VF)} {f f':MF} {vf vf':VF}
theorem PB.fn1(h:PB n ⟨R,cs,(G1++(f,vf)::G2).map Prod.fst,ts⟩)(hn:n<=n')(hl:f'.params.length<=n'/\f'.locals.length<=n'/\f'.code.length<=n')(hw:f'.wf):PB n' ⟨R,cs,(G1++(f',vf')::G2).map Prod.fst,ts⟩:=by
 have hm:∀g∈(G1++(f',vf')::G2).map Prod.fst,g=f'\/g∈(G1++(f,vf)::G2).map Prod.fst:=fun g hg=>by
  simp only[br,dF,aS,aX]at hg⊢;rcases hg with h|h|h
  . exact .inr (.inl h)
  . exact .inl h
  . exact .inr (.inr (.inr h))
 refine⟨?_,h.rl,fun r hr=>aY (h.rg r hr) hn,aY h.cl hn,aY h.tl hn,fun g hg=> ?_,⟨h.wf.regions,h.wf.consts,fun g hg=> ?_,h.wf.certs⟩⟩
 . have:=h.fl
   simp only[aj,aG,bP]at this⊢;omega
 . rcases hm g hg with rfl|e
   . exact hl
   . have:=h.fs g e
     omega
 . rcases hm g hg with rfl|e
   . exact hw
   . exact h.wf.funcs g e
theorem PB.ts1(h:PB n ⟨R,cs,fs,ts⟩)(hn:n<=n')(hl:ts'.length<=n')(hw:∀x∈ts',x.wf):PB n' ⟨R,cs,fs,ts'⟩:=by
 have h':=h.mono hn;exact⟨h'.fl,h'.rl,h'.rg,h'.cl,hl,h'.fs,⟨h'.wf.regions,h'.wf.consts,h'.wf.funcs,hw⟩⟩
theorem PB.cs1(h:PB n ⟨R,cs,fs,ts⟩)(hl:cs'.length<=n)(hw:∀x∈cs',x.wf):PB n ⟨R,cs',fs,ts⟩:=⟨h.fl,h.rl,h.rg,hl,h.tl,h.fs,⟨h.wf.regions,hw,h.wf.funcs,h.wf.certs⟩⟩
theorem PB.rs1(h:PB n ⟨R,cs,fs,ts⟩)(hn:n<=n')(hl:R'.length<=3)(hr:∀r∈R',r.length<=n')(hw:∀r∈R',∀z∈r,BN z):PB n' ⟨R',cs,fs,ts⟩:=by
 have h':=h.mono hn;exact⟨h'.fl,hl,hr,h'.cl,h'.tl,h'.fs,⟨hw,h'.wf.consts,h'.wf.funcs,h'.wf.certs⟩⟩
end
theorem Rd.back{u:World}{k n m c:Nat}{g o:Nat}{xs:List Value}(h:Rd u k (.slice (some ⟨g,o,none⟩) n c) n xs)(hm:m<=n)(c':Nat):Rd u k (.slice (some ⟨g,o+m*k,none⟩) (n-m) c') (n-m) (xs.drop (m*k)):=by
 have hl:=h.1;refine⟨by rw[dg,hl,<-Nat.sub_mul],?_⟩;rcases h.2 with⟨e0,_⟩|⟨g1,o1,c1,e1,hc⟩
 . exact .inl ⟨by omega,some ⟨g,o+m*k,none⟩,c',by rw[show n-m=0 by omega]⟩
 . simp only[aI,aJ,bf,cg]at e1
   obtain⟨⟨rfl,rfl⟩,_⟩:=e1;refine .inr ⟨g,o+m*k,c',rfl,fun j x hj=> ?_⟩;rw[ew]at hj;have:=hc _ _ hj;rwa [<-Nat.add_assoc]at this
theorem DX{α:Type}{G:List α}{q:Nat}{y:α}(h:G[q]?=some y):∃G1 G2,G=G1++y::G2/\G1.length=q:=by
 obtain⟨hl,e⟩:=aD.1 h;exact⟨G.take q,G.drop (q+1),by rw[<-e,List.getElem_cons_drop,dR],by rw[bh];omega⟩
theorem BN.wrap(z:Int):BN (IntKind.i64.wrap z):=wf_wrap _ z
theorem Pl.wrap(z:Int):Pl (IntKind.u32.wrap z):=wf_wrap _ z
theorem FU{α:Type}(f:α->List Value)(m:Nat)(hf:∀y,(f y).length=m)(A B:List α)(j:Nat)(y y':α)(u:Value)(hj:j<m)(he:f y'=(f y).set j u):((A++y::B).flatMap f).set (A.length*m+j) u=(A++y'::B).flatMap f:=by
 have hl:=Ax f m hf A;rw[a8,a8,df _ _ (by omega),hl,dm,aW,aW,List.set_append_left _ _ (by rw[hf];exact hj),he]
theorem GL{α:Type}(f:α->List Value)(m:Nat)(hf:∀y,(f y).length=m)(xs:List α)(k:Nat):(xs.take k).flatMap f=(xs.flatMap f).take (k*m)/\(xs.drop k).flatMap f=(xs.flatMap f).drop (k*m):=by
 induction xs generalizing k with
 |nil=>simp
 | cons x r ih=>
   cases k with
   |zero=>simp
   | succ k=>
     have hl:=hf x;rw[List.take_succ_cons,List.drop_succ_cons,aW,aW,(ih k).1,(ih k).2,List.take_append,List.drop_append,bZ (l:=f x) (by rw[hl,eL];omega),dq (l:=f x) (by rw[hl,eL];omega),hl,show(k+1)*m-m=k*m by rw[eL];omega];exact⟨rfl,rfl⟩
theorem NO{w u2:World}{base:Nat}{e:TypeId}{s:Value}{k n:Nat}{xs:List Value}(h:w.ownsRow base e k s n xs)(hs:∀g,s.ownBlock=some g->base<=g->g<w.heap.size->u2.heap[g]?=w.heap[g]?):u2.ownsRow base e k s n xs:=by
 refine⟨h.1,?_⟩;rcases h.2 with h|⟨g,cap,cur,rfl,hb1,hgg,hr⟩
 . exact .inl h
 . refine .inr ⟨g,cap,cur,rfl,hb1,?_,hr⟩
   rw[hs g rfl hb1 (an.1 hgg).1];exact hgg
theorem Eb.rdH{w:World}{base:Nat}{v:VP}{F:List (List Int×Value)}{cs:List MC}{G:List (MF×VF)}{ts:List MT}{B:List Av}(h:Eb w base (Ae v F cs G ts B)):N6 w v ⟨F.map Prod.fst,cs,G.map Prod.fst,ts⟩ F G:=by
 have h1:=Rd.of_own (h.own (BR v.r F) (by simp[Ae]));have h3:=Rd.of_own (h.own (A4 v.f G) (by simp[Ae]));refine⟨by simpa[BR]using h1,fun x hx=>Rd.of_own (h.own (AH x.2 x.1) ?_),Rd.of_own (h.own (CQ v.k cs) (by simp[Ae])),by simpa[A4]using h3,fun x hx=>⟨Rd.of_own (h.own (AH x.2.p x.1.params) ?_),Rd.of_own (h.own (AH x.2.l x.1.locals) ?_),Rd.of_own (h.own (AK x.2.c x.1.code) ?_)⟩,Rd.of_own (h.own (Cu v.t ts) (by simp[Ae]))⟩
 . have:AH x.2 x.1∈Bv F:=bJ.2 ⟨x,hx,rfl⟩
   simp[Ae,this]
 all_goals
  have e:∀r∈BQ x,r∈A6 G:=fun r hr=>cE.2 ⟨x,hx,hr⟩
 . have:=e (AH x.2.p x.1.params) (by simp[BQ]);simp[Ae,this]
 . have:=e (AH x.2.l x.1.locals) (by simp[BQ]);simp[Ae,this]
 . have:=e (AK x.2.c x.1.code) (by simp[BQ]);simp[Ae,this]
structure Be(u U:World)(s:Cv)(p:Int)(P RB n:Nat)(v:VP):Prop where
 bl:Bs u U s p [gb P v,gb RB vN]
 tl:∃x F G,F.map Prod.fst=x.regions/\G.map Prod.fst=x.funcs/\(∀u2:World,(∀k,u.heap.size<=k->k<U.heap.size->k≠RB->u2.heap[k]?=U.heap[k]?)->N6 u2 v x F G)/\PB n x
section
variable {u U:World} {s:Cv} {p p':Int} {P RB n n':Nat} {v:VP} {F:List (List Int×Value)} {cs:List MC} {G:List (MF×VF)} {ts:List MT} {D:List Av}
theorem Bs.rdB(h:Bs u U s p (Ae v F cs G ts D))(hD:gb RB vN∈D):∀u2:World,(∀k,u.heap.size<=k->k<U.heap.size->k≠RB->u2.heap[k]?=U.heap[k]?)->N6 u2 v ⟨F.map Prod.fst,cs,G.map Prod.fst,ts⟩ F G:=fun u2 hu=>by
 have h1:=h.sep;rw[CP]at h1;have h2:=cG.1 h1.sep;exact Eb.rdH (base:=u.heap.size) (B:=[]) ⟨fun r hr=>NO (h1.own r (aS.2 (.inl hr))) fun g hg k1 k2=>hu g k1 k2 fun e=>h2.2.2 r hr _ hD g hg (by rw[e];rfl),h2.1⟩
theorem Be.of(h:Bs u U s p (Ae v F cs G ts [gb P v,gb RB vN]))(hb:PB n ⟨F.map Prod.fst,cs,G.map Prod.fst,ts⟩):Be u U s p P RB n v:=
 ⟨h.sub (by rw[CP];exact List.sublist_append_right _ _),⟨_,F,G,rfl,rfl,h.rdB (by simp),hb⟩⟩
theorem Be.mono(h:Be u U s p P RB n v)(hn:n<=n'):Be u U s p P RB n' v:=by
 obtain⟨x,F,G,h1,h2,h3,h4⟩:=h.tl;exact⟨h.bl,x,F,G,h1,h2,h3,h4.mono hn⟩
theorem Be.sl4(h:Be u U s p P RB n v):∃a1 n1 c1 a2 n2 c2 a3 n3 c3 a4 n4 c4,v=⟨.slice a1 n1 c1,.slice a2 n2 c2,.slice a3 n3 c3,.slice a4 n4 c4⟩:=by
 obtain⟨x,F,G,h1,h2,h3,h4⟩:=h.tl;have q:=h3 U fun _ _ _ _=>rfl
 obtain⟨v1,v2,v3,v4⟩:=v;obtain⟨a1,c1,e1⟩:=q.r.is_slice;obtain⟨a2,c2,e2⟩:=q.k.is_slice;obtain⟨a3,c3,e3⟩:=q.f.is_slice;obtain⟨a4,c4,e4⟩:=q.t.is_slice;simp only[]at e1 e2 e3 e4;exact⟨a1,_,c1,a2,_,c2,a3,_,c3,a4,_,c4,by rw[e1,e2,e3,e4]⟩
theorem Be.fin{m:Int}(h:Be u U s p' P RB n v)(h1:p<=p')(h2:p'<=p+m){e:Ending}(he:e=.returned (.agg #[v.r,v.k,v.f,v.t])):Ij s p m n u e ((((U.setCell ⟨RB,0,none⟩ v.r).setCell ⟨RB,1,none⟩ v.k).setCell ⟨RB,2,none⟩ v.f).setCell ⟨RB,3,none⟩ v.t):=by
 obtain⟨x,F,G,g1,g2,g3,g4⟩:=h.tl;have k1:Bs u U s p' ([gb P v]++gb RB vN::[]):=h.bl;have k2:=(((k1.set 0 (by omega) v.r).set 1 (by omega) v.k).set 2 (by omega) v.f).set 3 (by omega) v.t;refine⟨v,x,he,⟨F,G,g1,g2,fun u2 hu=>g3 u2 fun k q1 q2 q3=> ?_⟩,g4,p',h1,h2,k2.bel.src,k2.bel.drw⟩;rw[hu k q1 (by simpa using q2),bO _ _ _ _ (fun e=>q3 e),bO _ _ _ _ (fun e=>q3 e),bO _ _ _ _ (fun e=>q3 e),bO _ _ _ _ (fun e=>q3 e)]
theorem Be.rb(h:Be u U s p P RB n v):((U.cell? ⟨P,0,none⟩=some v.r/\U.cell? ⟨P,1,none⟩=some v.k/\U.cell? ⟨P,2,none⟩=some v.f/\U.cell? ⟨P,3,none⟩=some v.t)/\(U.cell? ⟨RB,0,none⟩=some (.slice none 0 0)/\U.cell? ⟨RB,1,none⟩=some (.slice none 0 0)/\U.cell? ⟨RB,2,none⟩=some (.slice none 0 0)/\U.cell? ⟨RB,3,none⟩=some (.slice none 0 0))/\(U.frozen? ⟨RB,0,none⟩=false/\U.frozen? ⟨RB,1,none⟩=false/\U.frozen? ⟨RB,2,none⟩=false/\U.frozen? ⟨RB,3,none⟩=false))/\Bs u ((((U.setCell ⟨RB,0,none⟩ v.r).setCell ⟨RB,1,none⟩ v.k).setCell ⟨RB,2,none⟩ v.f).setCell ⟨RB,3,none⟩ v.t) s p [gb P v,gb RB v]:=by
 have k1:Bs u U s p ([gb P v]++gb RB vN::[]):=h.bl;have r:=h.bl.four (P:=RB) (v:=vN) (by simp);exact⟨⟨(h.bl.four (P:=P) (v:=v) (by simp)).1,r.1,r.2⟩,(((k1.set 0 (by omega) v.r).set 1 (by omega) v.k).set 2 (by omega) v.f).set 3 (by omega) v.t⟩
end
section
variable {w u U U':World} {s:Cv} {p:Int} {P RB n:Nat} {v:VP} {F:List (List Int×Value)} {cs:List MC} {G G1 G2:List (MF×VF)} {ts:List MT} {D R:List Av} {f:MF} {y y':MF×VF} {pv lv cv:Value} {gf cf gc cc q at_ len i j:Nat} {z:Int}
theorem JO(h:Bs u U s p (Ae v F cs G ts D))(hb:PB n ⟨F.map Prod.fst,cs,G.map Prod.fst,ts⟩)(hy:G[q]?=some (f,(⟨pv,lv,sG gc len cc⟩:VF)))(hl:f.code.length=len)(ha:at_<len)(hi:i<4)(hz:BN z):(∃G' f',Bs u (U.setCell ⟨gc,at_*4+i,none⟩ (iZ z)) s p (Ae v F cs G' ts D)/\PB n ⟨F.map Prod.fst,cs,G'.map Prod.fst,ts⟩/\G'[q]?=some (f',(⟨pv,lv,sG gc len cc⟩:VF))/\f'.code.length=len)/\U.frozen? ⟨gc,at_*4+i,none⟩=false:=by
 obtain⟨G1,G2,rfl,rfl⟩:=DX hy;subst hl;have hx:=aA ha;have hm:f∈(G1++(f,(⟨pv,lv,sG gc f.code.length cc⟩:VF))::G2).map Prod.fst:=by simp
 have hw:=hb.wf.funcs f hm;obtain⟨h1,h2⟩:=h.ins (at_*4+i) (iZ z) (f.code.set at_ (f.code[at_].setf i z)) (dD ..) (Jp hx hi);refine⟨⟨_,⟨f.params,f.result,f.locals,f.code.set at_ (f.code[at_].setf i z)⟩,h1,hb.fn1 lR (by simpa using hb.fs f hm) ⟨hw.params,hw.result,hw.locals,fun x hx'=> ?_⟩,by simp,by simp⟩,h2⟩;rcases dK hx' with e|e
 . exact hw.code x e
 . rw[e]
   exact Ng (hw.code _ (bq ha)) i hz
theorem GB{v:VP}(h:Bs u U s p (Ae v F cs G ts [gb P v,gb RB vN]))(hb:PB n ⟨F.map Prod.fst,cs,G.map Prod.fst,ts⟩)(hy:G[q]?=some (f,(⟨pv,lv,sG gc len cc⟩:VF)))(hl:f.code.length=len)(ha:at_<len)(hi:i<4)(hz:BN z):Be u (U.setCell ⟨gc,at_*4+i,none⟩ (iZ z)) s p P RB (n+1) v/\U.frozen? ⟨gc,at_*4+i,none⟩=false:=by
 obtain⟨⟨G',f',h1,h2,_⟩,h3⟩:=JO h hb hy hl ha hi hz;exact⟨(Be.of h1 h2).mono (by omega),h3⟩
theorem H8{v:VP}(h:Bs u U s p (Ae v F cs G ts [gb P v,gb RB vN]))(hb:PB n ⟨F.map Prod.fst,cs,G.map Prod.fst,ts⟩)(hy:G[q]?=some (f,(⟨pv,lv,sG gc len cc⟩:VF)))(hl:f.code.length=len)(ha:at_<len){z0 z1 z2 z3:Int}(h0:BN z0)(h1:BN z1)(h2:BN z2)(h3:BN z3):Be u ((((U.setCell ⟨gc,at_*4,none⟩ (iZ z0)).setCell ⟨gc,at_*4+1,none⟩ (iZ z1)).setCell ⟨gc,at_*4+2,none⟩ (iZ z2)).setCell ⟨gc,at_*4+3,none⟩ (iZ z3)) s p P RB (n+1) v:=by
 obtain⟨⟨G',f',b1,b2,b3,b4⟩,b5⟩:=JO (i:=0) h hb hy hl ha (by omega) h0;obtain⟨⟨G2,f2,c1,c2,c3,c4⟩,c5⟩:=JO (i:=1) b1 b2 b3 b4 ha (by omega) h1;obtain⟨⟨G3,f3,d1,d2,d3,d4⟩,d5⟩:=JO (i:=2) c1 c2 c3 c4 ha (by omega) h2;exact(GB (i:=3) d1 d2 d3 d4 ha (by omega) h3).1
theorem CG{x:MI}(h:Bs u U s p (Ae v F cs G ts D))(hy:G[q]?=some (f,(⟨pv,lv,sG gc len cc⟩:VF)))(hl:f.code.length=len)(hx:f.code[at_]?=some x):(U.cell? ⟨gc,at_*4,none⟩=some (iZ x.op)/\U.cell? ⟨gc,at_*4+1,none⟩=some (iZ x.a)/\U.cell? ⟨gc,at_*4+2,none⟩=some (iZ x.b)/\U.cell? ⟨gc,at_*4+3,none⟩=some (iZ x.c))/\(U.frozen? ⟨gc,at_*4,none⟩=false/\U.frozen? ⟨gc,at_*4+1,none⟩=false/\U.frozen? ⟨gc,at_*4+2,none⟩=false/\U.frozen? ⟨gc,at_*4+3,none⟩=false):=by
 subst hl;have ha:=(aD.1 hx).1
 have m:AK (sG gc f.code.length cc) f.code∈Ae v F cs G ts D:=by
  have:AK (sG gc f.code.length cc) f.code∈A6 G:=cE.2 ⟨_,aE hy,by simp[BQ]⟩;simp[Ae,this]
 have o:U.ownsRow u.heap.size 43 4 (sG gc f.code.length cc) f.code.length (f.code.flatMap MI.cells):=h.sep.own _ m
 have hh:∀j,j<4->U.cell? ⟨gc,at_*4+j,none⟩=x.cells[j]?:=fun j hj=>by
  rw[au o (at_*4+j) (by omega),CH MI.cells 4 MI.cells_length f.code at_ j _ hx hj]
 exact⟨⟨hh 0 (by omega),hh 1 (by omega),hh 2 (by omega),hh 3 (by omega)⟩,bz o _,bz o _,bz o _,bz o _⟩
theorem Ok(h:Bs u U s p (Ae v F cs G ts D))(hy:G[q]?=some (f,(⟨pv,lv,cv⟩:VF))):U.ownsRow u.heap.size 2 1 lv f.locals.length (f.locals.flatMap Ab)/\U.ownsRow u.heap.size 43 4 cv f.code.length (f.code.flatMap MI.cells):=by
 have m:∀r∈BQ (f,(⟨pv,lv,cv⟩:VF)),r∈Ae v F cs G ts D:=fun r hr=>by
  have:r∈A6 G:=cE.2 ⟨_,aE hy,hr⟩;simp[Ae,this]
 exact⟨h.sep.own _ (m (AH lv f.locals) (by simp[BQ])),h.sep.own _ (m (AK cv f.code) (by simp[BQ]))⟩
theorem Jl(h:Bs u U s p (Ae v F cs G ts D))(hy:G[q]?=some (f,(⟨pv,lv,cv⟩:VF)))(hv:v.f=sG gf G.length cf):U.cell? ⟨gf,q*4+3,none⟩=some cv/\U.cell? ⟨gf,q*4+2,none⟩=some lv:=by
 have hlt:=(aD.1 hy).1;have o:=h.prow.2.2.2.1;rw[hv]at o;exact⟨by rw[au o (q*4+3) (by omega),CH AN 4 Ao G q 3 _ hy (by omega)];rfl,by rw[au o (q*4+2) (by omega),CH AN 4 Ao G q 2 _ hy (by omega)];rfl⟩
theorem MV(h:Bs u U s p (Ae v F cs G ts D))(hy:G[q]?=some (f,(⟨pv,lv,cv⟩:VF)))(hv:v.f=sG gf G.length cf):U.cell? ⟨gf,q*4+2,none⟩=some lv:=(Jl h hy hv).2
theorem GE{x:MT}{k gt ct:Nat}(h:Bs u U s p (Ae v F cs G ts D))(hk:ts[k]?=some x)(hv:v.t=sG gt ts.length ct):(U.cell? ⟨gt,k*4+1,none⟩=some (iZ x.head)/\U.cell? ⟨gt,k*4+2,none⟩=some (iZ x.counter)/\U.cell? ⟨gt,k*4+3,none⟩=some (.int .u32 x.init))/\(U.frozen? ⟨gt,k*4+1,none⟩=false/\U.frozen? ⟨gt,k*4+2,none⟩=false/\U.frozen? ⟨gt,k*4+3,none⟩=false):=by
 obtain⟨g,c,e,_,h1,h2,h3⟩:=h.ct hk;rw[hv]at e;simp only[aI,aJ,bf,cg,bU]at e;obtain⟨rfl,rfl⟩:=e;have o:=h.prow.2.2.2.2;rw[hv]at o;exact⟨⟨h1,h2,h3⟩,bz o _,bz o _,bz o _⟩
theorem Qd{x:MC}{k gt ct:Nat}(h:Bs u U s p (Ae v F cs G ts D))(hk:cs[k]?=some x)(hv:v.k=sG gt cs.length ct):(U.cell? ⟨gt,k*2,none⟩=some (iZ x.type)/\U.cell? ⟨gt,k*2+1,none⟩=some (.int .u32 x.word))/\(U.frozen? ⟨gt,k*2,none⟩=false/\U.frozen? ⟨gt,k*2+1,none⟩=false):=by
 obtain⟨g,c,e,h1,h2⟩:=h.kt hk;rw[hv]at e;simp only[aI,aJ,bf,cg,bU]at e;obtain⟨rfl,rfl⟩:=e;have o:=h.prow.2.2.1;rw[hv]at o;exact⟨⟨h1,h2⟩,bz o _,bz o _⟩
theorem Kv{r:List Int}{vr:Value}{k gr cr:Nat}(h:Bs u U s p (Ae v F cs G ts D))(hk:F[k]?=some (r,vr))(hv:v.r=sG gr F.length cr):U.cell? ⟨gr,k,none⟩=some vr/\U.ownsRow u.heap.size 2 1 vr r.length (r.flatMap Ab):=by
 have o:=h.prow.2.1;rw[hv]at o;have hlt:=(aD.1 hk).1;have hf:=CH BL 1 (fun _=>rfl) F k 0 (r,vr) hk (by omega);rw[cZ,aw]at hf;refine⟨by rw[au o k (by omega),hf];rfl,h.sep.own (AH vr r) ?_⟩;have:AH vr r∈Bv F:=bJ.2 ⟨_,aE hk,rfl⟩;simp[Ae,this]
theorem Bs.fhd(h:Bs w u s p (A4 v.f (G1++y::G2)::R))(hv:v.f=sG gf (G1++y::G2).length cf)(hj:j<4)(x:Value)(he:AN y'=(AN y).set j x):Bs w (u.setCell ⟨gf,G1.length*4+j,none⟩ x) s p (A4 v.f (G1++y'::G2)::R)/\u.frozen? ⟨gf,G1.length*4+j,none⟩=false:=by
 have e0:A4 v.f (G1++y::G2)=⟨68,4,sG gf (G1++y::G2).length cf,(G1++y::G2).length,(G1++y::G2).flatMap AN⟩:=by simp[A4,hv]
 rw[e0]at h;have h2:=Bs.put1 h (G1.length*4+j) x;rw[FU AN 4 Ao G1 G2 j y y' x hj he]at h2;refine⟨?_,h2.2⟩;have h3:=h2.1;have e1:(⟨68,4,sG gf (G1++y::G2).length cf,(G1++y::G2).length,(G1++y'::G2).flatMap AN⟩:Av)=A4 v.f (G1++y'::G2):=by simp[A4,hv]
 rwa [e1]at h3
theorem Rj{v:VP}(h:Bs u U s p (Ae v F cs G ts [gb P v,gb RB vN]))(hb:PB n ⟨F.map Prod.fst,cs,G.map Prod.fst,ts⟩)(hy:G[q]?=some y)(hv:v.f=sG gf G.length cf)(hz:BN z):Be u (U.setCell ⟨gf,q*4+1,none⟩ (iZ z)) s p P RB (n+1) v/\U.frozen? ⟨gf,q*4+1,none⟩=false:=by
 obtain⟨G1,G2,rfl,rfl⟩:=DX hy;obtain⟨f,vf⟩:=y;have hm:f∈(G1++(f,vf)::G2).map Prod.fst:=by simp
 have hw:=hb.wf.funcs f hm;obtain⟨h1,h2⟩:=h.res hv z;exact⟨(Be.of h1 (hb.fn1 lR (by simpa using hb.fs f hm) ⟨hw.params,hz,hw.locals,hw.code⟩)).mono (by omega),h2⟩
theorem Rh{v:VP}{V:Value}(h:Bs u U s p (Ae v F cs G ts [gb P v,gb RB vN]))(hb:PB n ⟨F.map Prod.fst,cs,G.map Prod.fst,ts⟩)(hy:G[q]?=some (f,(⟨pv,lv,cv⟩:VF)))(hv:v.f=sG gf G.length cf)(hz:BN z)(ho:U'.ownsRow u.heap.size 2 1 V (f.locals.length+1) (f.locals.flatMap Ab++[iZ z]))(hg:U.grownBy U' lv.ownBlock)(hat:V.ownBlock=lv.ownBlock\/V.ownBlock=some U.heap.size):Be u (U'.setCell ⟨gf,q*4+2,none⟩ V) s p P RB (n+1) v/\U'.frozen? ⟨gf,q*4+2,none⟩=false/\U'.cell? ⟨gf,q*4+2,none⟩=some lv:=by
 have hlt:=(aD.1 hy).1;obtain⟨G1,G2,rfl,rfl⟩:=DX hy;have hm:f∈(G1++(f,(⟨pv,lv,cv⟩:VF))::G2).map Prod.fst:=by simp
 have hw:=hb.wf.funcs f hm;have hs:=hb.fs f hm
 have h1:=h.perm (M:=AH lv f.locals::(A4 v.f (G1++(f,(⟨pv,lv,cv⟩:VF))::G2)::(BR v.r F::Bv F++(CQ v.k cs::(A6 G1++(AH pv f.params::AK cv f.code::(A6 G2++(Cu v.t ts::[gb P v,gb RB vN])))))))) (AX fun inst q=>by
  simp only[Ae,A6,BQ,a8,aW,bT,bS,bj,ah];omega)
 have h2:=Bs.app (A:=[]) h1 (AH V (f.locals++[z])) (by simpa[Av.own,AH,Ab]using ho) hg hat
 have h3:=h2.perm (M:=A4 v.f (G1++(f,(⟨pv,lv,cv⟩:VF))::G2)::(AH V (f.locals++[z])::(BR v.r F::Bv F++(CQ v.k cs::(A6 G1++(AH pv f.params::AK cv f.code::(A6 G2++(Cu v.t ts::[gb P v,gb RB vN])))))))) (AX fun inst q=>by
  simp only[bL,bS];omega)
 have o4:U'.ownsRow u.heap.size 68 4 v.f (G1++(f,(⟨pv,lv,cv⟩:VF))::G2).length ((G1++(f,(⟨pv,lv,cv⟩:VF))::G2).flatMap AN):=h3.sep.own _ (bc ..);obtain⟨h4,h5⟩:=h3.fhd hv (j:=2) (y':=((⟨f.params,f.result,f.locals++[z],f.code⟩:MF),(⟨pv,V,cv⟩:VF))) (by omega) V rfl;refine⟨Be.of (h4.perm (AX fun inst q=> ?_)) (hb.fn1 (f':=⟨f.params,f.result,f.locals++[z],f.code⟩) (vf':=⟨pv,V,cv⟩) (by omega) ?_ ⟨hw.params,hw.result,fun x hx=> ?_,hw.code⟩),h5,?_⟩
 . simp only[Ae,A6,BQ,a8,aW,bT,bS,bj,ah]
   omega
 . simp only[aG,bP,bt]
   omega
 . rcases aS.1 hx with e|e
   . exact hw.locals x e
   . rw[am.1 e]
     exact hz
 . rw[hv]at o4
   rw[au o4 (G1.length*4+2) (by simp only[aG,bP];omega),CH AN 4 Ao _ G1.length 2 (f,(⟨pv,lv,cv⟩:VF)) (by simp) (by omega)];rfl
theorem Rg{v:VP}{V:Value}{code:List MI}(h:Bs u U s p (Ae v F cs G ts (AK V code::[gb P v,gb RB vN])))(hb:PB n ⟨F.map Prod.fst,cs,G.map Prod.fst,ts⟩)(hy:G[q]?=some (f,(⟨pv,lv,cv⟩:VF)))(hv:v.f=sG gf G.length cf)(hl:code.length<=n)(hw:∀x∈code,x.wf):Be u (U.setCell ⟨gf,q*4+3,none⟩ V) s p P RB (n+1) v/\U.frozen? ⟨gf,q*4+3,none⟩=false/\U.cell? ⟨gf,q*4+3,none⟩=some cv:=by
 obtain⟨G1,G2,rfl,rfl⟩:=DX hy;have hm:f∈(G1++(f,(⟨pv,lv,cv⟩:VF))::G2).map Prod.fst:=by simp
 have hw':=hb.wf.funcs f hm;have hs:=hb.fs f hm;obtain⟨h1,h2,h3⟩:=h.code_ hv;exact⟨(Be.of h1 (hb.fn1 lR ⟨hs.1,hs.2.1,hl⟩ ⟨hw'.params,hw'.result,hw'.locals,hw⟩)).mono (by omega),h3,h2⟩
theorem Om{v:VP}{x x':MT}{k gt ct:Nat}{y:Value}(h:Bs u U s p (Ae v F cs G ts [gb P v,gb RB vN]))(hb:PB n ⟨F.map Prod.fst,cs,G.map Prod.fst,ts⟩)(hk:ts[k]?=some x)(hv:v.t=sG gt ts.length ct)(hj:j<4)(he:x'.cells=x.cells.set j y)(hw:x'.wf):Be u (U.setCell ⟨gt,k*4+j,none⟩ y) s p P RB (n+1) v/\U.frozen? ⟨gt,k*4+j,none⟩=false:=by
 obtain⟨T1,T2,rfl,rfl⟩:=DX hk;have e0:Cu v.t (T1++x::T2)=⟨118,4,sG gt (T1++x::T2).length ct,(T1++x::T2).length,(T1++x::T2).flatMap MT.cells⟩:=by simp[Cu,hv]
 have h1:=h.perm (M:=Cu v.t (T1++x::T2)::(BR v.r F::Bv F++(CQ v.k cs::(A4 v.f G::A6 G++[gb P v,gb RB vN])))) (AX fun inst q=>by
  simp only[Ae,bT,bS,bj,ah];omega)
 rw[e0]at h1;have h2:=Bs.put1 h1 (T1.length*4+j) y;rw[FU MT.cells 4 MT.cells_length T1 T2 j x x' y hj he]at h2;have e1:(⟨118,4,sG gt (T1++x::T2).length ct,(T1++x::T2).length,(T1++x'::T2).flatMap MT.cells⟩:Av)=Cu v.t (T1++x'::T2):=by simp[Cu,hv]
 rw[e1]at h2;refine⟨(Be.of (ts:=T1++x'::T2) (h2.1.perm (AX fun inst q=> ?_)) (hb.ts1 lR (by simpa using hb.tl) fun z hz=> ?_)).mono (by omega),h2.2⟩
 . simp only[Ae,bT,bS,bj,ah]
   omega
 . rcases aS.1 hz with e|e
   . exact hb.wf.certs z (aS.2 (.inl e))
   . rcases aX.1 e with e|e
     . rw[e];exact hw
     . exact hb.wf.certs z (aS.2 (.inr (bR _ e)))
theorem Ol{x x':MC}{k gt ct:Nat}{y:Value}(h:Bs u U s p (Ae v F cs G ts D))(hb:PB n ⟨F.map Prod.fst,cs,G.map Prod.fst,ts⟩)(hk:cs[k]?=some x)(hv:v.k=sG gt cs.length ct)(hj:j<2)(he:x'.cells=x.cells.set j y)(hw:x'.wf):(∃cs',cs'.length=cs.length/\cs'[k]?=some x'/\Bs u (U.setCell ⟨gt,k*2+j,none⟩ y) s p (Ae v F cs' G ts D)/\PB n ⟨F.map Prod.fst,cs',G.map Prod.fst,ts⟩)/\U.frozen? ⟨gt,k*2+j,none⟩=false:=by
 obtain⟨T1,T2,rfl,rfl⟩:=DX hk;have e0:CQ v.k (T1++x::T2)=⟨102,2,sG gt (T1++x::T2).length ct,(T1++x::T2).length,(T1++x::T2).flatMap MC.cells⟩:=by simp[CQ,hv]
 have h1:=h.perm (M:=CQ v.k (T1++x::T2)::(BR v.r F::Bv F++(A4 v.f G::A6 G++(Cu v.t ts::D)))) (AX fun inst q=>by
  simp only[Ae,bT,bS,ah];omega)
 rw[e0]at h1;have h2:=Bs.put1 h1 (T1.length*2+j) y;rw[FU MC.cells 2 MC.cells_length T1 T2 j x x' y hj he]at h2;have e1:(⟨102,2,sG gt (T1++x::T2).length ct,(T1++x::T2).length,(T1++x'::T2).flatMap MC.cells⟩:Av)=CQ v.k (T1++x'::T2):=by simp[CQ,hv]
 rw[e1]at h2;refine⟨⟨T1++x'::T2,by simp,by simp,h2.1.perm (AX fun inst q=> ?_),hb.cs1 (by simpa using hb.cl) fun z hz=> ?_⟩,h2.2⟩
 . simp only[Ae,bT,bS,ah]
   omega
 . rcases aS.1 hz with e|e
   . exact hb.wf.consts z (aS.2 (.inl e))
   . rcases aX.1 e with e|e
     . rw[e];exact hw
     . exact hb.wf.consts z (aS.2 (.inr (bR _ e)))
theorem Oj{v v':VP}{k:Nat}{V:Value}{x:MP}{F':List (List Int×Value)}(h:Bs u U s p (Ae v F cs G ts [gb P v,gb RB vN]))(hk:k<4)(hV:[v'.r,v'.k,v'.f,v'.t]=[v.r,v.k,v.f,v.t].set k V)(hF:F'.map Prod.fst=x.regions)(hG:G.map Prod.fst=x.funcs)(hr:∀u2,N6 u2 v ⟨F.map Prod.fst,cs,G.map Prod.fst,ts⟩ F G->N6 u2 v' x F' G)(hb:PB n x):Be u (U.setCell ⟨P,k,none⟩ V) s p P RB n v':=by
 have h1:=Bs.setp (D:=[]) (E:=[gb RB vN]) (X:=P) (t:=65) (q:=4) (xs:=[v.r,v.k,v.f,v.t]) h k hk V;rw[<-hV]at h1;exact⟨h1.sub (by rw[CP];exact List.sublist_append_right _ _),⟨x,F',G,hF,hG,fun u2 hu=>hr u2 (h1.rdB (by simp) u2 hu),hb⟩⟩
theorem GY{w:World}{base:Nat}{e:TypeId}{a:Option Addr}{k n c:Nat}{xs:List Value}(h:w.ownsRow base e k (.slice a n c) n xs):n<=c:=by
 rcases h.2 with⟨e,h0⟩|⟨g,cap,cur,e,_,_,hc,_⟩
 . omega
 . simp only[aI]at e
   omega
theorem Rd.tail{u:World}{k n c i g:Nat}{a':Option Addr}{xs:List Value}(h:Rd u k (sG g n c) n xs)(hi:i<=n)(hc:n<=c)(ha:a'=if c=i then some ⟨g,0,none⟩else some ⟨g,i*k,none⟩)(c':Nat):Rd u k (.slice a' (n-i) c') (n-i) (xs.drop (i*k)):=by
 by_cases hci:c=i
 . rw[cD hci]at ha
   have h1:=h.back hi c';exact⟨h1.1,.inl ⟨by omega,a',c',by rw[show n-i=0 by omega]⟩⟩
 . rw[bu hci]at ha
   subst ha;have:=h.back hi c';rwa [bG]at this
theorem Qe{v:VP}{gt ct c':Nat}{a':Option Addr}(h:Bs u U s p (Ae v F cs G ts [gb P v,gb RB vN]))(hb:PB n ⟨F.map Prod.fst,cs,G.map Prod.fst,ts⟩)(hv:v.t=sG gt ts.length ct)(hl:1<=ts.length)(ha:a'=if ct=1 then some ⟨gt,0,none⟩else some ⟨gt,4,none⟩):Be u (U.setCell ⟨P,3,none⟩ (.slice a' (ts.length-1) c')) s p P RB (n+1) {v with t:=.slice a' (ts.length-1) c'}:=by
 have o:=h.prow.2.2.2.2;rw[hv]at o;refine(Oj (n:=n) (k:=3) (v':={v with t:=.slice a' (ts.length-1) c'}) (V:=.slice a' (ts.length-1) c') (x:=⟨F.map Prod.fst,cs,G.map Prod.fst,ts.drop 1⟩) (F':=F) h (by omega) rfl rfl rfl (fun u2 q=>⟨q.r,q.rr,q.k,q.f,q.ff,?_⟩) (hb.ts1 lR (by have:=hb.tl;simp only[dg]at this⊢;omega) fun z hz=>hb.wf.certs z (eP hz))).mono (n':=n+1) (by omega);have ht:=q.t;rw[hv]at ht;have:=ht.tail (i:=1) hl (GY o) ha c';have e:=(GL MT.cells 4 MT.cells_length ts 1).2;show Rd u2 4 (.slice a' (ts.length-1) c') (ts.drop 1).length ((ts.drop 1).flatMap MT.cells);rw[e,dg];exact this
theorem Ri{v:VP}{a:Option Addr}{cr c':Nat}(h:Bs u U s p (Ae v F cs G ts [gb P v,gb RB vN]))(hb:PB n ⟨F.map Prod.fst,cs,G.map Prod.fst,ts⟩)(hv:v.r=.slice a F.length cr)(hl:2<=F.length):Be u (U.setCell ⟨P,0,none⟩ (.slice a 2 c')) s p P RB (n+1) {v with r:=.slice a 2 c'}:=by
 refine(Oj (n:=n) (k:=0) (v':={v with r:=.slice a 2 c'}) (V:=.slice a 2 c') (x:=⟨(F.take 2).map Prod.fst,cs,G.map Prod.fst,ts⟩) (F':=F.take 2) h (by omega) rfl rfl rfl (fun u2 q=>⟨?_,fun y hy=>q.rr y (dQ hy),q.k,q.f,q.ff,q.t⟩) (hb.rs1 lR (by simp only[aj,bh];omega) (fun r hr=> ?_) (fun r hr=> ?_))).mono (n':=n+1) (by omega)
 . have hr:=q.r
   rw[hv]at hr;simp only[aj]at hr;have:=hr.front (m:=2) (by simpa using Ax BL 1 (fun _=>rfl) F) hl c';have e:=(GL BL 1 (fun _=>rfl) F 2).1;show Rd u2 1 (.slice a 2 c') ((F.take 2).map Prod.fst).length ((F.take 2).flatMap BL);rw[e,aj,bh,Nat.min_eq_left hl];exact this
 . obtain⟨y,hy,rfl⟩:=bJ.1 hr
   exact hb.rg _ (bJ.2 ⟨y,dQ hy,rfl⟩)
 . obtain⟨y,hy,rfl⟩:=bJ.1 hr
   exact hb.wf.regions _ (bJ.2 ⟨y,dQ hy,rfl⟩)
theorem Qv(h:Bs u U s p (Ae v F cs G ts D)):Bs u (U.alloc (.cells #[] 43)) s p (Ae v F cs G ts (AK (sG U.heap.size 0 0) []::D)):=
 (h.row (r:=AK (sG U.heap.size 0 0) []) (Aa _ _) (A5 U _ _)).perm (AX fun inst q=>by
  simp only[Ae,bT,bS,bj,ah];omega)
theorem MW(h:Bs u U s p (Ae v F cs G ts D))(hy:G[q]?=some (f,(⟨pv,lv,sG gc f.code.length cc⟩:VF)))(ha:at_<f.code.length):Rd U 4 (sG gc at_ cc) at_ ((f.code.take at_).flatMap MI.cells)/\∀(a':Option Addr) (c':Nat),(if cc=at_+1 then some (⟨gc,0,none⟩:Addr)else some ⟨gc,(at_+1)*4,none⟩)=a'->Rd U 4 (.slice a' (f.code.length-(at_+1)) c') (f.code.length-(at_+1)) ((f.code.drop (at_+1)).flatMap MI.cells):=by
 have o:=(Ok h hy).2;have hr:=Rd.of_own o;rw[(GL MI.cells 4 MI.cells_length f.code at_).1,(GL MI.cells 4 MI.cells_length f.code (at_+1)).2];exact⟨hr.front (Ax MI.cells 4 MI.cells_length _) (by omega) cc,fun a' c' e=>hr.tail (by omega) (GY o) e.symm c'⟩
theorem Qx{v:VP}{V:Value}{x:MT}(h:Bs u U s p (Ae v F cs G ts [gb P v,gb RB vN]))(hb:PB n ⟨F.map Prod.fst,cs,G.map Prod.fst,ts⟩)(hw:x.wf)(ho:U'.ownsRow u.heap.size 118 4 V (ts.length+1) (ts.flatMap MT.cells++x.cells))(hg:U.grownBy U' v.t.ownBlock)(hat:V.ownBlock=v.t.ownBlock\/V.ownBlock=some U.heap.size):Be u (U'.setCell ⟨P,3,none⟩ V) s p P RB (n+1) {v with t:=V}/\U'.frozen? ⟨P,3,none⟩=false/\U'.cell? ⟨P,3,none⟩=some v.t/\U'.cell? ⟨P,2,none⟩=some v.f:=by
 have h1:=h.push_t x V ho hg hat;have h2:=Bs.setp (D:=[]) (E:=[gb RB vN]) (X:=P) (t:=65) (q:=4) (xs:=[v.r,v.k,v.f,v.t]) h1 3 (by omega) V;have h3:=h1.four (P:=P) (v:=v) (by simp[Ae]);refine⟨Be.of h2 (hb.ts1 (by omega) (by have:=hb.tl;simp only[aG,bP,bt]at this⊢;omega) fun z hz=> ?_),h3.2.2.2.2,h3.1.2.2.2,h3.1.2.2.1⟩;rcases aS.1 hz with e|e
 . exact hb.wf.certs z e
 . rw[am.1 e]
   exact hw
theorem Qw{v:VP}{V vr:Value}{r:List Int}{k gr cr:Nat}(h:Bs u U s p (Ae v F cs G ts [gb P v,gb RB vN]))(hb:PB n ⟨F.map Prod.fst,cs,G.map Prod.fst,ts⟩)(hk:F[k]?=some (r,vr))(hv:v.r=sG gr F.length cr)(hz:BN z)(ho:U'.ownsRow u.heap.size 2 1 V (r.length+1) (r.flatMap Ab++[iZ z]))(hg:U.grownBy U' vr.ownBlock)(hat:V.ownBlock=vr.ownBlock\/V.ownBlock=some U.heap.size):Be u (U'.setCell ⟨gr,k,none⟩ V) s p P RB (n+1) v/\U'.frozen? ⟨gr,k,none⟩=false/\U'.cell? ⟨gr,k,none⟩=some vr/\U'.cell? ⟨P,0,none⟩=some v.r:=by
 obtain⟨F1,F2,rfl,rfl⟩:=DX hk
 have h1:=h.perm (M:=AH vr r::(BR v.r (F1++(r,vr)::F2)::(Bv F1++Bv F2++(CQ v.k cs::(A4 v.f G::A6 G++(Cu v.t ts::[gb P v,gb RB vN])))))) (AX fun inst q=>by
  simp only[Ae,Bv,br,dF,bT,bS,bj,ah];omega)
 have h2:=Bs.app (A:=[]) h1 (AH V (r++[z])) (by simpa[Av.own,AH,Ab]using ho) hg hat;have e0:BR v.r (F1++(r,vr)::F2)=⟨26,1,sG gr (F1++(r,vr)::F2).length cr,(F1++(r,vr)::F2).length,(F1++(r,vr)::F2).flatMap BL⟩:=by simp[BR,hv]
 have h3:=h2.perm (M:=BR v.r (F1++(r,vr)::F2)::(AH V (r++[z])::(Bv F1++Bv F2++(CQ v.k cs::(A4 v.f G::A6 G++(Cu v.t ts::[gb P v,gb RB vN])))))) (AX fun inst q=>by
  simp only[bL,bS];omega)
 rw[e0]at h3;have o4:U'.ownsRow u.heap.size 26 1 (sG gr (F1++(r,vr)::F2).length cr) (F1++(r,vr)::F2).length ((F1++(r,vr)::F2).flatMap BL):=h3.sep.own _ (bc ..);have h4:=Bs.put1 h3 F1.length V;have ef:=FU BL 1 (fun _=>rfl) F1 F2 0 (r,vr) (r++[z],V) V (by omega) rfl;rw[cZ,aw]at ef;rw[ef]at h4;have e1:(⟨26,1,sG gr (F1++(r,vr)::F2).length cr,(F1++(r,vr)::F2).length,(F1++(r++[z],V)::F2).flatMap BL⟩:Av)=BR v.r (F1++(r++[z],V)::F2):=by simp[BR,hv]
 rw[e1]at h4
 have hm:∀x∈(F1++(r++[z],V)::F2).map Prod.fst,x=r++[z]\/x∈(F1++(r,vr)::F2).map Prod.fst:=fun x hx=>by
  simp only[br,dF,aS,aX]at hx⊢;rcases hx with h|h|h
  . exact .inr (.inl h)
  . exact .inl h
  . exact .inr (.inr (.inr h))
 have hmr:r∈(F1++(r,vr)::F2).map Prod.fst:=by simp
 refine⟨Be.of (F:=F1++(r++[z],V)::F2) (h4.1.perm (AX fun inst q=> ?_)) (hb.rs1 (by omega) (by simpa using hb.rl) (fun x hx=> ?_) fun x hx z' hz'=> ?_),h4.2,?_,(h2.four (P:=P) (v:=v) (by simp)).1.1⟩
 . simp only[Ae,Bv,br,dF,bT,bS,bj,ah]
   omega
 . rcases hm x hx with rfl|e
   . have:=hb.rg r hmr
     simp only[aG,bP,bt];omega
   . have:=hb.rg x e
     omega
 . rcases hm x hx with rfl|e
   . rcases aS.1 hz' with e|e
     . exact hb.wf.regions r hmr z' e
     . rw[am.1 e]
       exact hz
   . exact hb.wf.regions x e z' hz'
 . have hc:=au o4 F1.length (by simp only[aG,bP];omega)
   have hf:=CH BL 1 (fun _=>rfl) (F1++(r,vr)::F2) F1.length 0 (r,vr) (by simp) (by omega);rw[cZ,aw]at hf;rw[hc,hf];rfl
end
theorem PH{w:World}{xs:List MI}{r:F7}{vb vo vi vl:Value}(h:Bm xs r)(h0:r.code=0)(hr:Dt w vb vo vi vl r):∃gb ob cb go oo co E O,vb=sO gb ob r.blocks.length cb/\vo=sO go oo r.blocks.length co/\0<r.blocks.length/\∀x:GV,x.gb=gb->x.ob=ob->x.go=go->x.oo=oo->GF w r.blocks.length x E O:=by
 cases h with
 |none _=>cases h0
 |off _ _ _=>cases h0
 |lost _ _ _ _ _ _ _ _=>cases h0
 |two _ _ _ _ _ _ _ _=>cases h0
 | @good x S O D L I g x1 o1 v1 s1 d1 b1 i1 l1=>
   have hn:=Ee g;have hE:∀b,b<(Ap xs).length->∀y∈nx (Ap xs) b,y<(Ap xs).length:=JB g;obtain⟨hP,hnd,hOn,hOm,_⟩:=De hn hE v1 s1;obtain⟨gb,ob,cb,e1,hgr,_⟩:=Ha.graph g hr.blocks
   have ho:Gk w vo O.reverse:=by
    have:=hr.order;unfold Gk;rw[CS];simp only[Az]at this;exact this
   obtain⟨a,c,e2⟩:=Rd.is_slice ho;subst e2;obtain⟨go,oo,e3,_,hoc⟩:=ho.all (by rw[bg,hOn];exact hn);subst e3;refine⟨gb,ob,cb,go,oo,c,nx (Ap xs),O.reverse,e1,by rw[bg,hOn],hn,fun x q1 q2 q3 q4=> ?_⟩;subst q1 q2 q3 q4;exact⟨hgr,hoc,by rw[bg,hOn],fun y hy=>(hOm y).1 (dM.1 hy),hE,FK _ (DT xs)⟩
structure Gp(w u:World)(G:Nat)(fc fa:Int)(vb vo vi vl vI vC:Value)(bad:Bool)(I:List Nat)(C:List Int):Prop where
 blk:An u G #[iZ fc,iZ fa,vb,vo,vi,vl,vI,vC,.bool bad] 182
 lo:w.heap.size<=G
 is_:u.ownsRow w.heap.size 2 1 vI I.length (nv I)
 cost:u.ownsRow w.heap.size 2 1 vC C.length (C.flatMap Ab)
 ne:∀b,vI.ownBlock=some b->vC.ownBlock=some b->False
 bel:Below w.heap.size w u
 cb:∀y∈C,I5 y
section
variable {w u u':World} {G:Nat} {fc fa:Int} {vb vo vi vl vI vC:Value} {bad:Bool} {I:List Nat} {C:List Int}
theorem Gp.keep(h:Gp w u G fc fa vb vo vi vl vI vC bad I C)(hb:Below u.heap.size u u'):Gp w u' G fc fa vb vo vi vl vI vC bad I C:={h with blk:=h.blk.keep hb,is_:=Aj h.is_ hb lR,cost:=Aj h.cost hb lR,bel:=Af h.bel lR hb}
theorem Gp.bad_(h:Gp w u G fc fa vb vo vi vl vI vC bad I C):Gp w (u.setCell ⟨G,8,none⟩ (.bool true)) G fc fa vb vo vi vl vI vC true I C:=
 {h with blk:=by have:=h.blk.set 8 (.bool true);simpa using this,is_:=aR h.is_ (a:=⟨G,8,none⟩) (fun q=>A7 h.is_ h.blk (by decide) _ q rfl) _,cost:=aR h.cost (a:=⟨G,8,none⟩) (fun q=>A7 h.cost h.blk (by decide) _ q rfl) _,bel:=h.bel.setCell h.lo _}
theorem Gp.cells(h:Gp w u G fc fa vb vo vi vl vI vC bad I C):u.cell? ⟨G,6,none⟩=some vI/\u.cell? ⟨G,7,none⟩=some vC/\u.cell? ⟨G,8,none⟩=some (.bool bad)/\∀i,u.frozen? ⟨G,i,none⟩=false:=
 ⟨by rw[h.blk.cell];rfl,by rw[h.blk.cell];rfl,by rw[h.blk.cell];rfl,h.blk.frozen⟩
theorem DP{B k n:Nat}{e:TypeId}{s:Value}{xs:List Value}{o:Option Nat}(h:u.ownsRow B e k s n xs)(hg:u.grownBy u' o)(hne:∀b,s.ownBlock=some b->some b≠o):u'.ownsRow B e k s n xs:=by
 refine⟨h.1,?_⟩;rcases h.2 with h|⟨g,cap,cur,e1,hb1,hgg,hr⟩
 . exact .inl h
 . refine .inr ⟨g,cap,cur,e1,hb1,?_,hr⟩
   rw[hg.block g (an.1 hgg).1 (hne g (by rw[e1];rfl))];exact hgg
theorem Ib{B k n b:Nat}{e:TypeId}{s:Value}{xs:List Value}(h:u.ownsRow B e k s n xs)(hb:s.ownBlock=some b):b<u.heap.size:=(h.lt b hb).2
theorem Gp.push_I(h:Gp w u G fc fa vb vo vi vl vI vC bad I C)(b:Nat)(V:Value)(ho:u'.ownsRow w.heap.size 2 1 V (I.length+1) (nv I++[iZ (b:Int)]))(hg:u.grownBy u' vI.ownBlock)(hat:V.ownBlock=vI.ownBlock\/V.ownBlock=some u.heap.size):Gp w (u'.setCell ⟨G,6,none⟩ V) G fc fa vb vo vi vl V vC bad (I++[b]) C/\u'.cell? ⟨G,6,none⟩=some vI/\u'.frozen? ⟨G,6,none⟩=false:=by
 have hb':An u' G _ _:=h.blk.grown hg h.is_ (by decide);have hc':u'.ownsRow w.heap.size 2 1 vC C.length (C.flatMap Ab):=DP h.cost hg (fun b hb q=>h.ne b q.symm hb);refine⟨⟨by have:=hb'.set 6 V;simpa using this,h.lo,?_,aR hc' (a:=⟨G,6,none⟩) (fun q=>A7 hc' hb' (by decide) _ q rfl) _,fun b h1 h2=> ?_,((h.bel.grown hg h.bel.size (fun j hj=>(h.is_.lt j hj).1)).setCell h.lo _),h.cb⟩,by rw[hb'.cell];rfl,hb'.frozen 6⟩
 . have:=aR ho (a:=⟨G,6,none⟩) (fun q=>A7 ho hb' (by decide) _ q rfl) V
   rw[aG,aP,En];exact this
 . rcases hat with e|e
   . exact h.ne b (e▸h1) h2
   . rw[e]at h1
     have:=Ib h.cost h2;simp only[aJ]at h1;omega
theorem Gp.push_C(h:Gp w u G fc fa vb vo vi vl vI vC bad I C){c:Int}(hc:I5 c)(V:Value)(ho:u'.ownsRow w.heap.size 2 1 V (C.length+1) (C.flatMap Ab++[iZ c]))(hg:u.grownBy u' vC.ownBlock)(hat:V.ownBlock=vC.ownBlock\/V.ownBlock=some u.heap.size):Gp w (u'.setCell ⟨G,7,none⟩ V) G fc fa vb vo vi vl vI V bad I (C++[c])/\u'.cell? ⟨G,7,none⟩=some vC/\u'.frozen? ⟨G,7,none⟩=false:=by
 have hb':An u' G _ _:=h.blk.grown hg h.cost (by decide);have hc':u'.ownsRow w.heap.size 2 1 vI I.length (nv I):=DP h.is_ hg (fun b hb q=>h.ne b hb q.symm);refine⟨⟨by have:=hb'.set 7 V;simpa using this,h.lo,aR hc' (a:=⟨G,7,none⟩) (fun q=>A7 hc' hb' (by decide) _ q rfl) _,?_,fun b h1 h2=> ?_,((h.bel.grown hg h.bel.size (fun j hj=>(h.cost.lt j hj).1)).setCell h.lo _),fun y hy=> ?_⟩,by rw[hb'.cell];rfl,hb'.frozen 7⟩
 . have:=aR ho (a:=⟨G,7,none⟩) (fun q=>A7 ho hb' (by decide) _ q rfl) V
   rw[aG,aP,a8];exact this
 . rcases hat with e|e
   . exact h.ne b h1 (e▸h2)
   . rw[e]at h2
     have:=Ib h.is_ h1;simp only[aJ]at h2;omega
 . rcases aS.1 hy with e|e
   . exact h.cb y e
   . rw[am.1 e]
     exact hc
theorem Gp.gr{n gb ob cb go oo co:Nat}(h:Gp w u G fc fa (sO gb ob n cb) (sO go oo n co) vi vl vI vC bad (List.range n) C)(hl:C.length=n)(hn:0<n):∃gi ci gc cc,Gr w u G n ⟨fc,fa,gb,ob,cb,go,oo,co,vi,vl,gi,ci,gc,cc⟩ bad (List.range n) C:=by
 have h1:=h.is_;have h2:=h.cost;rw[cM]at h1;rw[hl]at h2;rcases Ba h1 with⟨_,e⟩|⟨gi,ci,e1⟩
 . omega
 rcases Ba h2 with⟨_,e⟩|⟨gc,cc,e2⟩
 . omega
 subst e1 e2;exact⟨gi,ci,gc,cc,h.blk,h.lo,h1,h2,fun e=>h.ne gi rfl (by simp only[]at e;rw[e];rfl),h.bel,cM,fun y hy=>c6.1 hy,hl,h.cb⟩
end
end Go.Proofs.YtjpobijiblcgaaaGreat
