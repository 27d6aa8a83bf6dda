import Derived.Test.YtjpobijiblcgaaaGreatFw0
import Derived.Test.YtjpobijiblcgaaaGreatFw31
import Derived.Test.YtjpobijiblcgaaaGreatFw6
import Derived.Test.YtjpobijiblcgaaaGreatFw28
import Derived.Test.YtjpobijiblcgaaaGreatFw4
import Derived.Deep.RegionHeld
namespace Go.Proofs.YtjpobijiblcgaaaGreat
open Go.ChangeShapes Go.WideShapes Go.ChangeAt Go.RowKit
set_option linter.unusedVariables false
set_option maxHeartbeats 8000000
set_option maxRecDepth 100000
theorem NC{G1 G2:List (MF×VF)}{f f':MF}{pv lv c0 c1:Value}(hf:f'.result=f.result):((G1++(f,(⟨pv,lv,c0⟩:VF))::G2).flatMap AN).set (G1.length*4+3) c1=(G1++(f',(⟨pv,lv,c1⟩:VF))::G2).flatMap AN:=by
 induction G1 with
 |nil=>simp[AN,hf]
 | cons x r ih=>
   rw[ah,ah,aW,aW,<-ih,bP,show(r.length+1)*4+3=r.length*4+3+1+1+1+1 by omega];rfl
section
variable {w u:World} {s:Cv} {p:Int} {v:VP} {F:List (List Int×Value)} {cs:List MC} {G1 G2:List (MF×VF)} {ts:List MT} {P gf cf:Nat} {X:Av} {D:List Av} {f:MF} {pv lv c0 vc:Value} {code:List MI}
theorem Bs.code_(h:Bs w u s p (Ae v F cs (G1++(f,(⟨pv,lv,c0⟩:VF))::G2) ts (AK vc code::X::D)))(hv:v.f=.slice (some ⟨gf,0,none⟩) (G1++(f,(⟨pv,lv,c0⟩:VF))::G2).length cf):Bs w (u.setCell ⟨gf,G1.length*4+3,none⟩ vc) s p (Ae v F cs (G1++((⟨f.params,f.result,f.locals,code⟩:MF),(⟨pv,lv,vc⟩:VF))::G2) ts (X::D))/\u.cell? ⟨gf,G1.length*4+3,none⟩=some c0/\u.frozen? ⟨gf,G1.length*4+3,none⟩=false:=by
 have ho:=h.prow.2.2.2.1;rw[hv]at ho;have hs:=(dA ho (G1.length*4+3) vc).1;rw[NC (f:=f) (f':=⟨f.params,f.result,f.locals,code⟩) rfl]at hs;have hlt:=(ho.lt gf rfl).1;have hc:=au ho (G1.length*4+3) (by simp only[aG,bP];omega);rw[CH AN 4 Ao _ G1.length 3 (f,(⟨pv,lv,c0⟩:VF)) (by simp) (by omega)]at hc;refine⟨⟨?_,h.bel.setCell hlt _⟩,hc,ho.frozenAt _⟩;have h0:Eb u w.heap.size ((BR v.r F::Bv F++[CQ v.k cs])++A4 v.f (G1++(f,(⟨pv,lv,c0⟩:VF))::G2)::(A6 (G1++(f,(⟨pv,lv,c0⟩:VF))::G2)++(Cu v.t ts::AK vc code::X::D))):=by simpa[Ae,List.append_assoc]using h.sep
 have h1:=h0.put ((G1++((⟨f.params,f.result,f.locals,code⟩:MF),(⟨pv,lv,vc⟩:VF))::G2).flatMap AN) (by show(u.setCell ⟨gf,G1.length*4+3,none⟩ vc).ownsRow _ _ _ v.f _ _;rw[hv];exact hs) (by show u.grownBy (u.setCell ⟨gf,G1.length*4+3,none⟩ vc) v.f.ownBlock;rw[hv];exact D2 (⟨rfl,rfl,rfl,Nat.le_refl _,fun _ _ _=>rfl⟩:u.grownBy u (some gf)) _ _);have e:({A4 v.f (G1++(f,(⟨pv,lv,c0⟩:VF))::G2)with xs:=(G1++((⟨f.params,f.result,f.locals,code⟩:MF),(⟨pv,lv,vc⟩:VF))::G2).flatMap AN}:Av)=A4 v.f (G1++((⟨f.params,f.result,f.locals,code⟩:MF),(⟨pv,lv,vc⟩:VF))::G2):=by simp[A4]
 rw[e]at h1
 have h2:Eb (u.setCell ⟨gf,G1.length*4+3,none⟩ vc) w.heap.size (Ae v F cs (G1++((⟨f.params,f.result,f.locals,code⟩:MF),(⟨pv,lv,vc⟩:VF))::G2) ts (X::D)++[AK c0 f.code]):=h1.perm (by
  classical
  rw[eX];intro a;simp only[Ae,A6,BQ,a8,aW,bT,bS,bj];omega)
 exact h2.sub (dB _ _)
end
structure GQ(n i:Nat)(G:List (MF×VF)):Prop where
 len:G.length=n
 fn:∀y∈G,y.1.params.length<=8/\(3<=y.1.locals.length/\y.1.locals.length<=1000)/\y.1.code.length<=20000/\y.1.wf
structure KQ(i:Nat)(cs:List MC)(ts:List MT):Prop where
 cl:cs.length<=100+20000*i
 cw:∀x∈cs,x.wf
 tl:ts.length<=64
 tw:∀x∈ts,x.wf
section
variable {w u:World} {s:Cv} {p:Int} {v:VP} {F:List (List Int×Value)} {cs:List MC} {G:List (MF×VF)} {ts:List MT} {P:Nat} {E:List Av}
theorem GS.new{n i:Nat}{L0:Int}(h:Bs w u s p (Ae v F cs G ts (gb P v::E)))(hq:GQ n i G)(hk:KQ i cs ts):GS w (u.alloc (.cells #[.pointer (some ⟨s.S,0,none⟩),.pointer (some ⟨P,0,none⟩),iZ (i:Int),sN,iZ L0,iZ 0,iZ 0] 106)) s ⟨F,G,P,u.heap.size,i,L0,cs.length,64⟩ p L0 0 0 E:=by
 have h1:=(h.nil 43 4).box 106 7 [.pointer (some ⟨s.S,0,none⟩),.pointer (some ⟨P,0,none⟩),.int .i64 (i:Int),sN,.int .i64 L0,.int .i64 0,.int .i64 0] rfl;refine⟨v,sN,⟨[],cs,ts⟩,⟨h1.perm ?_⟩,⟨by simp,by simp,hk.tl,(fun x hx=>by cases hx),hk.cw,hk.tw⟩⟩;classical
 rw[eX];intro a;simp only[Ae,AK,Mx,bT,bS,bj,cA,bt];omega
theorem CY.new{n i Gb:Nat}{L0:Int}(hF:F.length=3/\(∀x∈F,x.1.length<=100)/\∀x∈F,∀z∈x.1,BN z)(hq:GQ n i G)(hk:KQ i cs ts)(hi:i<n)(hn:n<=4)(hL:0<=L0/\L0<=300):CY ⟨F,G,P,Gb,i,L0,cs.length,64⟩:=
 ⟨hF.1,hF.2.1,by rw[hq.len];exact hi,by show G.length<=32;rw[hq.len];omega,fun y hy=>(hq.fn y hy).1,fun y hy=>(hq.fn y hy).2.1,hL,fun y hy=>(hq.fn y hy).2.2.2,hF.2.2,by have:=hk.cl;show cs.length<=100000;omega,by show 64<=64;omega⟩
end
section
variable {w u:World} {s:Cv} {k:GK} {p left lv:Int} {sl:Nat} {D:List Av}
theorem GS.fnr(h:GS w u s k p left lv sl D)(hk:CY k):∃(gf cf:Nat) (r:Int) (c0:Value),u.cell? ⟨k.P,2,none⟩=some (sG gf k.G.length cf)/\u.cell? ⟨gf,k.fi*4+1,none⟩=some (iZ r)/\BN r:=by
 obtain⟨v,vc,g,h1,h2⟩:=h.ex;obtain⟨y,hy⟩:∃y,k.G[k.fi]?=some y:=⟨_,aA hk.fi⟩;obtain⟨gf,cf,ap,cp,al,cl,ac,cc,e1,e2,⟨f0,f1,f2,f3⟩,o1,o2,o3⟩:=h1.bl.fn hy;have hp:=h1.pcells.2.2.1;rw[e1]at hp;exact⟨gf,cf,_,sN,hp,f1,(hk.wf y (aE hy)).result⟩
theorem GS.done{n:Nat}(h:GS w u s k p left lv 0 D)(hk:CY k)(hq:GQ n k.fi k.G)(hl:-16800<=left)(hl0:k.L0<=210)(hc:k.nc<=100+20000*k.fi)(hnt:k.nt<=64):∃(gf cf:Nat) (c0:Value) (a:Option Addr) (c:Nat),(u.cell? ⟨k.P,2,none⟩=some (sG gf k.G.length cf)/\u.cell? ⟨k.Gb,3,none⟩=some (.slice a (k.L0-left).toNat c)/\u.cell? ⟨gf,k.fi*4+3,none⟩=some c0/\u.frozen? ⟨gf,k.fi*4+3,none⟩=false)/\(∃v cs G ts,Bs w (u.setCell ⟨gf,k.fi*4+3,none⟩ (.slice a (k.L0-left).toNat c)) s p (Ae v k.F cs G ts (gb k.P v::D))/\GQ n (k.fi+1) G/\KQ (k.fi+1) cs ts)/\((u.setCell ⟨gf,k.fi*4+3,none⟩ (.slice a (k.L0-left).toNat c)).cell? ⟨k.P,2,none⟩=some (sG gf k.G.length cf)/\(u.setCell ⟨gf,k.fi*4+3,none⟩ (.slice a (k.L0-left).toNat c)).cell? ⟨k.Gb,3,none⟩=some (.slice a (k.L0-left).toNat c)):=by
 obtain⟨v,vc,g,h1,h2⟩:=h.ex;obtain⟨⟨f,pv,lv',c0⟩,hy⟩:∃y,k.G[k.fi]?=some y:=⟨_,aA hk.fi⟩;obtain⟨gf,cf,ap,cp,al,cl,ac,cc,e1,e2,⟨f0,f1,f2,f3⟩,o1,o2,o3⟩:=h1.bl.fn hy;obtain⟨⟨a,c,ev⟩,_⟩:=h1.bl.nrow;have hlen:g.code.length=(k.L0-left).toNat:=by have:=h2.len;omega
 have hsp:k.G=k.G.take k.fi++(f,(⟨pv,lv',c0⟩:VF))::k.G.drop (k.fi+1):=by
  have hlt:=hk.fi
  have hg:k.G[k.fi]=(f,(⟨pv,lv',c0⟩:VF)):=by
   have:=aA hlt;rw[hy]at this;exact(bC this).symm
  rw[<-hg,List.getElem_cons_drop,dR]
 have hG1:(k.G.take k.fi).length=k.fi:=by rw[bh];have:=hk.fi;omega
 have hp:=h1.pcells.2.2.1;have hb3:=h1.cells.2.2.2.1;rw[e1]at hp;have hbl:=h1.bl;rw[hsp]at hbl;obtain⟨b1,b2,b3⟩:=hbl.code_ (by rw[e1,<-hsp]);rw[hG1]at b1 b2 b3;rw[ev,hlen]at b1 hb3
 have b4:Bs w (u.setCell ⟨gf,k.fi*4+3,none⟩ (.slice a (k.L0-left).toNat c)) s p (Ae v k.F g.consts (k.G.take k.fi++((⟨f.params,f.result,f.locals,g.code⟩:MF),(⟨pv,lv',.slice a (k.L0-left).toNat c⟩:VF))::k.G.drop (k.fi+1)) g.certs (gb k.P v::D)++[Mx s k (.slice a (k.L0-left).toNat c) left lv]):=b1.perm (by
  classical
  rw[eX];intro x;simp only[Ae,bT,bS,bj];omega)
 refine⟨gf,cf,c0,a,c,⟨hp,hb3,b2,b3⟩,⟨v,_,_,_,b4.sub (dB _ _),⟨?_,fun y hy'=> ?_⟩,⟨?_,h2.wk,by have:=h2.nt;omega,h2.wt⟩⟩,?_⟩
 . rw[aG,bP,hG1,dg]
   have:=hk.fi;have:=hq.len;omega
 . rcases aS.1 hy' with e|e
   . exact hq.fn y (dQ e)
   . rcases aX.1 e with e|e
     . rw[e]
       have hf:=hq.fn _ (aE hy);exact⟨hf.1,hf.2.1,by show g.code.length<=20000;omega,⟨hf.2.2.2.params,hf.2.2.2.result,hf.2.2.2.locals,h2.wc⟩⟩
     . exact hq.fn y (eP e)
 . have:=h2.nc
   show g.consts.length<=_;omega
 . have m1:Mx s k (.slice a (k.L0-left).toNat c) left lv∈Ae v k.F g.consts (k.G.take k.fi++((⟨f.params,f.result,f.locals,g.code⟩:MF),(⟨pv,lv',.slice a (k.L0-left).toNat c⟩:VF))::k.G.drop (k.fi+1)) g.certs (gb k.P v::D)++[Mx s k (.slice a (k.L0-left).toNat c) left lv]:=by simp
   have m2:gb k.P v∈Ae v k.F g.consts (k.G.take k.fi++((⟨f.params,f.result,f.locals,g.code⟩:MF),(⟨pv,lv',.slice a (k.L0-left).toNat c⟩:VF))::k.G.drop (k.fi+1)) g.certs (gb k.P v::D)++[Mx s k (.slice a (k.L0-left).toNat c) left lv]:=by simp[Ae]
   have c3:=b4.cell m1 3 (by omega);have c2:=(b4.four m2).1.2.2.1;rw[e1]at c2;exact⟨c2,c3⟩
end
structure PB(n:Nat)(m:MP):Prop where
 fl:1<=m.funcs.length/\m.funcs.length<=32
 rl:m.regions.length<=3
 rg:∀r∈m.regions,r.length<=n
 cl:m.consts.length<=n
 tl:m.certs.length<=n
 fs:∀f∈m.funcs,f.params.length<=n/\f.locals.length<=n/\f.code.length<=n
 wf:m.wf
theorem PB.small{n:Nat}{m:MP}(h:PB n m)(hn:n<=1048576):m.small:=⟨by have:=h.rl;omega,fun r hr=>aY (h.rg r hr) hn,aY h.cl hn,by have:=h.fl;omega,fun f hf=>⟨aY (h.fs f hf).1 hn,aY (h.fs f hf).2.1 hn,aY (h.fs f hf).2.2 hn⟩,aY h.tl hn⟩
def Ij(s:Cv)(p m:Int)(n:Nat)(u:World)(e:Ending)(u':World):Prop:=∃(v:VP) (x:MP),e=.returned (.agg #[v.r,v.k,v.f,v.t])/\Cw u.heap.size u'.heap.size u' v x/\PB n x/\Dr s p m u u'
def Q6(s:Cv)(p m:Int)(n:Nat)(u:World)(e:Ending)(u':World):Prop:=∃(v:VP) (x:MP),e=.returned (.agg #[v.r,v.k,v.f,v.t])/\Cw u.heap.size u'.heap.size u' v x/\PB n x/\x.regions.length=3/\Dr s p m u u'
def Pu(s:Cv)(u:World)(v:VP)(m:MP):Prop:=∃F G,F.map Prod.fst=m.regions/\G.map Prod.fst=m.funcs/\∀u2,AC s.S u u2->N6 u2 v m F G
theorem Pu.rd{s:Cv}{u:World}{v:VP}{m:MP}(h:Pu s u v m):∀u2,AC s.S u u2->Fr u2 v m:=fun u2 hd=>by
 obtain⟨F,G,h1,h2,h3⟩:=h;have q:=h3 u2 hd;exact⟨⟨F,h1,q.r,q.rr⟩,q.k,⟨G,h2,q.f,q.ff⟩,q.t⟩
def Gy:Prop:=∀(u:World) (s:Cv) (p:Int) (v:VP) (m:MP) (n:Nat),CU u s.S s.a s.len s.cap p->p+100<=1000000000000->Pu s u v m->PB n m->m.regions.length=3->n<=200000->Calls Tryz.prog 41 #[.pointer (some ⟨s.S,0,none⟩),.agg #[v.r,v.k,v.f,v.t]] u (Ij s p 100 (n+1) u)
theorem PB.mono{n n':Nat}{x:MP}(h:PB n x)(hn:n<=n'):PB n' x:=⟨h.fl,h.rl,fun r hr=>aY (h.rg r hr) hn,aY h.cl hn,aY h.tl hn,fun f hf=>⟨aY (h.fs f hf).1 hn,aY (h.fs f hf).2.1 hn,aY (h.fs f hf).2.2 hn⟩,h.wf⟩
theorem Fr.sl4{w:World}{v:VP}{x:MP}(h:Fr w v x):∃a1 c1 a2 c2 a3 c3 a4 c4,v=⟨.slice a1 x.regions.length c1,.slice a2 x.consts.length c2,.slice a3 x.funcs.length c3,.slice a4 x.certs.length c4⟩:=by
 obtain⟨v1,v2,v3,v4⟩:=v;obtain⟨xs,_,h1,_⟩:=h.regions;obtain⟨ys,_,h3,_⟩:=h.funcs;obtain⟨a1,c1,e1⟩:=h1.is_slice;obtain⟨a2,c2,e2⟩:=h.consts.is_slice;obtain⟨a3,c3,e3⟩:=h3.is_slice;obtain⟨a4,c4,e4⟩:=h.certs.is_slice;simp only[]at e1 e2 e3 e4;subst e1 e2 e3 e4;exact⟨a1,c1,a2,c2,a3,c3,a4,c4,rfl⟩
theorem OR(l:List MC):∀u∈l.flatMap MC.cells,u.oneCell'=true:=fun u hu=>by
 obtain⟨x,_,hx⟩:=cE.1 hu;simp only[MC.cells,aX,bB,cW]at hx;rcases hx with rfl|rfl<;>rfl
def N8(n A P:Int):Prop:=∀(w u:World) (s:Cv) (k:GK) (p left lv:Int) (D:List Av) (t deep:Int),CY k->GS w u s k p left lv 0 D->deep<=n-> -1000000<=deep->p+A<=1000000000000-> -600000+10*P<=left->BN t->Calls Tryz.prog 54 #[.pointer (some ⟨k.Gb,0,none⟩),iZ t,iZ deep] u (MS w s k p left lv D A P)
theorem GS.fn{w u:World}{s:Cv}{k:GK}{p left lv:Int}{sl:Nat}{D:List Av}(h:GS w u s k p left lv sl D)(hk:CY k){q:Nat}(hq:q<k.G.length):∃(gf cf:Nat) (xs:List Int) (a:Option Addr) (c:Nat),k.G[q]?.map (fun y=>y.1.params)=some xs/\u.cell? ⟨k.Gb,1,none⟩=some (.pointer (some ⟨k.P,0,none⟩))/\u.cell? ⟨k.P,2,none⟩=some (sG gf k.G.length cf)/\u.cell? ⟨gf,q*4,none⟩=some (.slice a xs.length c)/\Rd u 1 (.slice a xs.length c) xs.length (xs.flatMap Ab)/\xs.length<=8:=by
 obtain⟨v,vc,g,h1,h2⟩:=h.ex;obtain⟨y,hy⟩:∃y,k.G[q]?=some y:=⟨_,aA hq⟩;obtain⟨gf,cf,ap,cp,al,cl,ac,cc,e1,e2,⟨f0,f1,f2,f3⟩,o1,o2,o3⟩:=h1.bl.fn hy;have hp:=h1.pcells.2.2.1;rw[e1]at hp;exact⟨gf,cf,y.1.params,ap,cp,by rw[hy];rfl,h1.cells.2.1,hp,f0,Rd.of_own o1,hk.pr y (aE hy)⟩
theorem Hr{n A P:Int}(hA:8<=A/\A<=10000000000)(hP:1<=P/\P<=1000)(ih:N8 n A P)(w u:World)(s:Cv)(k:GK)(p left lv:Int)(D:List Av)(f:Nat)(deep:Int)(hk:CY k)(h:GS w u s k p left lv 0 D)(hf:f<k.G.length)(hd:deep<=n+1)(hd2:-900000<=deep)(hn:n<=1000)(hp:p+8*A<=1000000000000)(hl:-600000+10*(8*P+1)<=left):
 Calls Tryz.prog 77 #[.pointer (some ⟨k.Gb,0,none⟩),iZ (f:Int),iZ deep] u (MS w s k p left lv D (8*A) (8*P+1)):=by
 have HK:Hid (CY k/\N8 n A P):=⟨hk,ih⟩
 have hl2:=h.le hk;have hfI:(f:Int)<(k.G.length:Int):=by omega
 have hp0:=h.src.low;have hgl:=hk.gl;have E0:=Ah h;obtain⟨gf0,cf0,xs,a0,c0,hxs,_,_,_,_,hx8⟩:=h.fn hk hf
 have HX:Hid (k.G[f]?.map (fun y=>y.1.params)=some xs/\∀z∈xs,BN z):=⟨hxs,fun z hz=>by
  cases hy:k.G[f]? with
  |none=>rw[hy]at hxs;cases hxs
  | some y=>
    rw[hy]at hxs;have:y.1.params=xs:=by simpa using hxs
    exact(hk.wf y (aE hy)).params z (this▸hz)⟩
 clear hk ih h hxs;go_enter Tryz.func77,Tryz.ntmps77;go_wp2_with fail
 go_loopw [6] (fun i wr=>∃(j:Nat) (p' left':Int),j<=xs.length/\i=iZ j/\p<=p'/\p'<=p+j*A/\left-j*P<=left'/\left'<=left-j/\Hid (GS w wr s k p' left' lv 0 D)) (fun i _=>xs.length-(intOf i).toNat)
 case atStart=>exact⟨0,p,left,by omega,rfl,by omega,by omega,by omega,by omega,E0⟩
 case round=>
  clear E0;obtain⟨j,p1,left1,hj,rfl,g1,g2,g3,g4,E1⟩:=hrel;obtain⟨gf,cf,xs',a,c,hxs',d0,d1,d2,hrd,hx8'⟩:=E1.o.fn HK.o.1 hf;rw[HX.o.1]at hxs';obtain rfl:xs=xs':=by simpa using hxs'
  clear hxs' hx8';have hjA:(j:Int)*A<=8*A:=dj (by omega) (by omega);have hjP:(j:Int)*P<=8*P:=dj (by omega) (by omega);by_cases hlt:j<xs.length
  case pos=>
   have hltI:(j:Int)<(xs.length:Int):=by omega
   have hjA1:((j:Int)+1)*A<=8*A:=dj (by omega) (by omega);have hjA2:((j:Int)+1)*A=j*A+A:=by rw[Int.add_mul,Int.one_mul]
   have hjP2:((j:Int)+1)*P=j*P+P:=by rw[Int.add_mul,Int.one_mul]
   have hjP1:((j:Int)+1)*P<=8*P:=dj (by omega) (by omega);obtain⟨x,hx⟩:∃x,xs[j]?=some x:=⟨_,aA hlt⟩;have hxw:=HX.o.2 x (aE hx)
   obtain⟨ga,oa,ea,kz⟩:∃ga oa,a=some ⟨ga,oa,none⟩/\wr.cell? ⟨ga,oa+j,none⟩=some (iZ x):=by
    rcases hrd.2 with⟨e0,_⟩|⟨g1,o1,c1',e1,hc⟩
    . omega
    . simp only[aI,bU]at e1
      exact⟨g1,o1,e1.1,hc j _ (Ed hx)⟩
   subst ea;have hwd:IntKind.i64.wrap (deep-1)=deep-1:=bp _ ⟨by omega,by omega⟩;clear hx hrd;have hcon:=Ah (HK.o.2 w wr s k p1 left1 lv D x (deep-1) HK.o.1 E1.o (by omega) (by omega) (by omega) (by omega) hxw);clear hxw;generalize (j:Int)*A=jA at*;generalize (j:Int)*P=jP at*;go_wp2_with fail
   refine hcon.o.mono ?_;rintro e u2 ⟨rfl,p2,left2,f1,f2,f3,f4,h2⟩;have E2:=Ah h2;clear h2 hcon E1;go_wp2_with fail
   go_roundw
   case rel=>exact⟨j+1,p2,left2,by omega,by go_num,by omega,by rw[Int.natCast_add,Int.natCast_one,hjA2];omega,by rw[Int.natCast_add,Int.natCast_one,hjP2];omega,by omega,E2⟩
   case measure=>simp[intOf];omega
  case neg=>
   generalize (j:Int)*A=jA at*;generalize (j:Int)*P=jP at*;clear hrd;go_wp2_with fail
   refine(Ar HK.o.1 E1.o (by omega) Ag Ag Ag Ag).mono ?_;rintro e u3 ⟨n3,rfl,_,h3⟩;have E3:=Ah h3;clear h3;go_wp2_with fail
   refine bK (v:=.tuple #[]) (by kernel_rfl) rfl ?_;exact⟨rfl,p1,left1-1,by omega,by omega,by omega,by omega,E3.o⟩
theorem RD(r:Int)(h0:0<=r)(h1:r<5):∃v:Int,(#[Value.int .i64 17,iZ 18,iZ 13,iZ 14,iZ 15]:Array Value)[r.toNat]?=some (iZ v)/\0<=v/\v<=20:=by
 have h:r=0\/r=1\/r=2\/r=3\/r=4:=by omega
 rcases h with rfl|rfl|rfl|rfl|rfl<;>exact⟨_,rfl,by omega,by omega⟩
theorem RC(r:Int)(h0:0<=r)(h1:r<3):∃v:Int,(#[Value.int .i64 1,iZ 2,iZ 3]:Array Value)[r.toNat]?=some (iZ v)/\0<=v/\v<=20:=by
 have h:r=0\/r=1\/r=2:=by omega
 rcases h with rfl|rfl|rfl<;>exact⟨_,rfl,by omega,by omega⟩
theorem Hh{n A P:Int}(hA:8<=A/\A<=10000000000)(hP:1<=P/\P<=1000)(ih:N8 n A P)(w u:World)(s:Cv)(k:GK)(p left lv:Int)(D:List Av)(t deep:Int)(hk:CY k)(h:GS w u s k p left lv 0 D)(hd:deep<=n)(hd2:-900000<=deep)(hn:n<=1000)(hp:p+(2*A+8)<=1000000000000)(hl:-600000+10*(8*P+1)<=left)(ht:BN t):
 Calls Tryz.prog 79 #[.pointer (some ⟨k.Gb,0,none⟩),iZ t,iZ deep] u (MS w s k p left lv D (2*A+8) (2*P+1)):=by
 have HK:Hid (CY k/\N8 n A P/\BN t):=⟨hk,ih,ht⟩
 have hl2:=h.le hk;have hL0:=hk.l0;have hp0:=h.src.low;have E0:=Ah h;obtain⟨_,_,q0,_⟩:=h.cells;clear hk ih h ht;go_enter Tryz.func79,Tryz.ntmps79;have B0:p<=p/\left<=left:=⟨Int.le_refl _,Int.le_refl _⟩
 cases ht1:(t==1)
 case true=>
  go_wp2_with fail
  refine(Ai E0.o.src).mono ?_;rintro e u1 ⟨r1,h1a,h1b,rfl,hs,hd'⟩;have E1:=Ah (E0.o.draw hs hd');clear hs hd' q0;cases e0:(r1==0)
  case true=>
   go_wp2_with fail
   refine(Ai E1.o.src).mono ?_;rintro e u2 ⟨r2,h2a,h2b,rfl,hs,hd'⟩;have E2:=Ah (E1.o.draw hs hd');clear hs hd';go_wp2_with fail
   refine(HK.o.2.1 w _ s k (p+1+1) (left) lv D _ _ HK.o.1 E2.o (by omega) (by omega) (by omega) (by omega) Ag).mono ?_;rintro e u3 ⟨rfl,p3,l3,b3a,b3b,b3c,b3d,hh⟩;have E3:=Ah hh;clear hh;go_wp2_with fail
   refine(HK.o.2.1 w _ s k (p3) (l3) lv D _ _ HK.o.1 E3.o (by omega) (by omega) (by omega) (by omega) Ag).mono ?_;rintro e u4 ⟨rfl,p4,l4,b4a,b4b,b4c,b4d,hh⟩;have E4:=Ah hh;clear hh;go_wp2_with fail
   refine(Ar HK.o.1 E4.o (by omega) Ag Ag Ag Ag).mono ?_;rintro e u5 ⟨n5,rfl,hn5,hh⟩;have E5:=Ah hh;clear hh;go_wp2_with fail
   refine aT (v:=.tuple #[]) (by kernel_rfl) rfl ?_;exact⟨rfl,p4,l4-1,by omega,by omega,by omega,by omega,E5.o⟩
  case false=>
   cases e1:(r1==1)
   case true=>
    go_wp2_with fail
    refine(Ai E1.o.src).mono ?_;rintro e u2 ⟨r2,h2a,h2b,rfl,hs,hd'⟩;have E2:=Ah (E1.o.draw hs hd');clear hs hd';go_wp2_with fail
    refine(HK.o.2.1 w _ s k (p+1+1) (left) lv D _ _ HK.o.1 E2.o (by omega) (by omega) (by omega) (by omega) Ag).mono ?_;rintro e u3 ⟨rfl,p3,l3,b3a,b3b,b3c,b3d,hh⟩;have E3:=Ah hh;clear hh;go_wp2_with fail
    refine(HK.o.2.1 w _ s k (p3) (l3) lv D _ _ HK.o.1 E3.o (by omega) (by omega) (by omega) (by omega) Ag).mono ?_;rintro e u4 ⟨rfl,p4,l4,b4a,b4b,b4c,b4d,hh⟩;have E4:=Ah hh;clear hh;go_wp2_with fail
    refine(Ar HK.o.1 E4.o (by omega) Ag Ag Ag Ag).mono ?_;rintro e u5 ⟨n5,rfl,hn5,hh⟩;have E5:=Ah hh;clear hh;go_wp2_with fail
    refine aT (v:=.tuple #[]) (by kernel_rfl) rfl ?_;exact⟨rfl,p4,l4-1,by omega,by omega,by omega,by omega,E5.o⟩
   case false=>
    cases e2:(r1==2)
    case true=>
     go_wp2_with fail
     refine(HK.o.2.1 w _ s k (p+1) (left) lv D _ _ HK.o.1 E1.o (by omega) (by omega) (by omega) (by omega) HK.o.2.2).mono ?_;rintro e u2 ⟨rfl,p2,l2,b2a,b2b,b2c,b2d,hh⟩;have E2:=Ah hh;clear hh;go_wp2_with fail
     refine(Ar HK.o.1 E2.o (by omega) Ag HK.o.2.2 Ag Ag).mono ?_;rintro e u3 ⟨n3,rfl,hn3,hh⟩;have E3:=Ah hh;clear hh;go_wp2_with fail
     refine aT (v:=.tuple #[]) (by kernel_rfl) rfl ?_;exact⟨rfl,p2,l2-1,by omega,by omega,by omega,by omega,E3.o⟩
    case false=>
     go_wp2_with fail
     refine(HK.o.2.1 w _ s k (p+1) (left) lv D _ _ HK.o.1 E1.o (by omega) (by omega) (by omega) (by omega) HK.o.2.2).mono ?_;rintro e u2 ⟨rfl,p2,l2,b2a,b2b,b2c,b2d,hh⟩;have E2:=Ah hh;clear hh;go_wp2_with fail
     refine(HK.o.2.1 w _ s k (p2) (l2) lv D _ _ HK.o.1 E2.o (by omega) (by omega) (by omega) (by omega) HK.o.2.2).mono ?_;rintro e u3 ⟨rfl,p3,l3,b3a,b3b,b3c,b3d,hh⟩;have E3:=Ah hh;clear hh;go_wp2_with fail
     refine(Ai E3.o.src).mono ?_;rintro e u4 ⟨r4,h4a,h4b,rfl,hs,hd'⟩;have E4:=Ah (E3.o.draw hs hd');clear hs hd';go_wp2_with fail
     refine(Ar HK.o.1 E4.o (by omega) Ag HK.o.2.2 Ag Ag).mono ?_;rintro e u5 ⟨n5,rfl,hn5,hh⟩;have E5:=Ah hh;clear hh;go_wp2_with fail
     refine aT (v:=.tuple #[]) (by kernel_rfl) rfl ?_;exact⟨rfl,p3+1,l3-1,by omega,by omega,by omega,by omega,E5.o⟩
 case false=>
  cases ht2:(t==2)
  case true=>
   go_wp2_with fail
   refine(AF E0.o.src).mono ?_;rintro e u1 ⟨b1,rfl,hs,hd'⟩;have E1:=Ah (E0.o.draw hs hd');clear hs hd' q0;cases b1
   case true=>
    go_wp2_with fail
    refine(HK.o.2.1 w _ s k (p+1) (left) lv D _ _ HK.o.1 E1.o (by omega) (by omega) (by omega) (by omega) HK.o.2.2).mono ?_;rintro e u2 ⟨rfl,p2,l2,b2a,b2b,b2c,b2d,hh⟩;have E2:=Ah hh;clear hh;go_wp2_with fail
    refine(Ar HK.o.1 E2.o (by omega) Ag Ag Ag Ag).mono ?_;rintro e u3 ⟨n3,rfl,hn3,hh⟩;have E3:=Ah hh;clear hh;go_wp2_with fail
    refine aT (v:=.tuple #[]) (by kernel_rfl) rfl ?_;exact⟨rfl,p2,l2-1,by omega,by omega,by omega,by omega,E3.o⟩
   case false=>
    have ht3 : (t == 3) = false := by have:t=2:=by simpa using ht2
                                      subst this;rfl
    go_wp2_with fail
    refine(HK.o.2.1 w _ s k (p+1) (left) lv D _ _ HK.o.1 E1.o (by omega) (by omega) (by omega) (by omega) HK.o.2.2).mono ?_;rintro e u2 ⟨rfl,p2,l2,b2a,b2b,b2c,b2d,hh⟩;have E2:=Ah hh;clear hh;go_wp2_with fail
    refine(AF E2.o.src).mono ?_;rintro e u3 ⟨b3,rfl,hs,hd'⟩;have E3:=Ah (E2.o.draw hs hd');clear hs hd';cases b3
    case true=>
     go_wp2_with fail
     refine(Ar HK.o.1 E3.o (by omega) Ag Ag Ag Ag).mono ?_;rintro e u4 ⟨n4,rfl,hn4,hh⟩;have E4:=Ah hh;clear hh;go_wp2_with fail
     refine(Ai E4.o.src).mono ?_;rintro e u5 ⟨r5,h5a,h5b,rfl,hs,hd'⟩;have E5:=Ah (E4.o.draw hs hd');clear hs hd';go_wp2_with fail
     refine(Ar HK.o.1 E5.o (by omega) Ag HK.o.2.2 Ag Ag).mono ?_;rintro e u6 ⟨n6,rfl,hn6,hh⟩;have E6:=Ah hh;clear hh;go_wp2_with fail
     refine bK (v:=.tuple #[]) (by kernel_rfl) rfl ?_;exact⟨rfl,p2+1+1,l2-1-1,by omega,by omega,by omega,by omega,E6.o⟩
    case false=>
     go_wp2_with fail
     refine(HK.o.2.1 w _ s k (p2+1) (l2) lv D _ _ HK.o.1 E3.o (by omega) (by omega) (by omega) (by omega) HK.o.2.2).mono ?_;rintro e u4 ⟨rfl,p4,l4,b4a,b4b,b4c,b4d,hh⟩;have E4:=Ah hh;clear hh;go_wp2_with fail
     refine(Ai E4.o.src).mono ?_;rintro e u5 ⟨r5,h5a,h5b,rfl,hs,hd'⟩;have E5:=Ah (E4.o.draw hs hd');clear hs hd';go_wp2_with fail
     refine(Ar HK.o.1 E5.o (by omega) Ag HK.o.2.2 Ag Ag).mono ?_;rintro e u6 ⟨n6,rfl,hn6,hh⟩;have E6:=Ah hh;clear hh;go_wp2_with fail
     refine bK (v:=.tuple #[]) (by kernel_rfl) rfl ?_;exact⟨rfl,p4+1,l4-1,by omega,by omega,by omega,by omega,E6.o⟩
  case false=>
   cases ht3:(t==3)
   case false=>
    go_wp2_with fail
    refine(HK.o.2.1 w _ s k (p) (left) lv D _ _ HK.o.1 E0.o (by omega) (by omega) (by omega) (by omega) HK.o.2.2).mono ?_;rintro e u1 ⟨rfl,p1,l1,b1a,b1b,b1c,b1d,hh⟩;have E1:=Ah hh;clear hh;go_wp2_with fail
    refine(AF E1.o.src).mono ?_;rintro e u2 ⟨b2,rfl,hs,hd'⟩;have E2:=Ah (E1.o.draw hs hd');clear hs hd';cases b2
    case true=>
     go_wp2_with fail
     refine(Ar HK.o.1 E2.o (by omega) Ag Ag Ag Ag).mono ?_;rintro e u3 ⟨n3,rfl,hn3,hh⟩;have E3:=Ah hh;clear hh;go_wp2_with fail
     refine(Ai E3.o.src).mono ?_;rintro e u4 ⟨r4,h4a,h4b,rfl,hs,hd'⟩;have E4:=Ah (E3.o.draw hs hd');clear hs hd';go_wp2_with fail
     refine(Ar HK.o.1 E4.o (by omega) Ag HK.o.2.2 Ag Ag).mono ?_;rintro e u5 ⟨n5,rfl,hn5,hh⟩;have E5:=Ah hh;clear hh;go_wp2_with fail
     refine bK (v:=.tuple #[]) (by kernel_rfl) rfl ?_;exact⟨rfl,p1+1+1,l1-1-1,by omega,by omega,by omega,by omega,E5.o⟩
    case false=>
     go_wp2_with fail
     refine(HK.o.2.1 w _ s k (p1+1) (l1) lv D _ _ HK.o.1 E2.o (by omega) (by omega) (by omega) (by omega) HK.o.2.2).mono ?_;rintro e u3 ⟨rfl,p3,l3,b3a,b3b,b3c,b3d,hh⟩;have E3:=Ah hh;clear hh;go_wp2_with fail
     refine(Ai E3.o.src).mono ?_;rintro e u4 ⟨r4,h4a,h4b,rfl,hs,hd'⟩;have E4:=Ah (E3.o.draw hs hd');clear hs hd';go_wp2_with fail
     refine(Ar HK.o.1 E4.o (by omega) Ag HK.o.2.2 Ag Ag).mono ?_;rintro e u5 ⟨n5,rfl,hn5,hh⟩;have E5:=Ah hh;clear hh;go_wp2_with fail
     refine bK (v:=.tuple #[]) (by kernel_rfl) rfl ?_;exact⟨rfl,p3+1,l3-1,by omega,by omega,by omega,by omega,E5.o⟩
   case true=>
    go_wp2_with fail
    refine(AF E0.o.src).mono ?_;rintro e u1 ⟨b1,rfl,hs,hd'⟩;have E1:=Ah (E0.o.draw hs hd');clear hs hd' q0;cases b1
    case false=>
     go_wp2_with fail
     refine(HK.o.2.1 w _ s k (p+1) (left) lv D _ _ HK.o.1 E1.o (by omega) (by omega) (by omega) (by omega) HK.o.2.2).mono ?_;rintro e u2 ⟨rfl,p2,l2,b2a,b2b,b2c,b2d,hh⟩;have E2:=Ah hh;clear hh;go_wp2_with fail
     refine(AF E2.o.src).mono ?_;rintro e u3 ⟨b3,rfl,hs,hd'⟩;have E3:=Ah (E2.o.draw hs hd');clear hs hd';cases b3
     case true=>
      go_wp2_with fail
      refine(Ar HK.o.1 E3.o (by omega) Ag Ag Ag Ag).mono ?_;rintro e u4 ⟨n4,rfl,hn4,hh⟩;have E4:=Ah hh;clear hh;go_wp2_with fail
      refine(Ai E4.o.src).mono ?_;rintro e u5 ⟨r5,h5a,h5b,rfl,hs,hd'⟩;have E5:=Ah (E4.o.draw hs hd');clear hs hd';go_wp2_with fail
      refine(Ar HK.o.1 E5.o (by omega) Ag HK.o.2.2 Ag Ag).mono ?_;rintro e u6 ⟨n6,rfl,hn6,hh⟩;have E6:=Ah hh;clear hh;go_wp2_with fail
      refine bK (v:=.tuple #[]) (by kernel_rfl) rfl ?_;exact⟨rfl,p2+1+1,l2-1-1,by omega,by omega,by omega,by omega,E6.o⟩
     case false=>
      go_wp2_with fail
      refine(HK.o.2.1 w _ s k (p2+1) (l2) lv D _ _ HK.o.1 E3.o (by omega) (by omega) (by omega) (by omega) HK.o.2.2).mono ?_;rintro e u4 ⟨rfl,p4,l4,b4a,b4b,b4c,b4d,hh⟩;have E4:=Ah hh;clear hh;go_wp2_with fail
      refine(Ai E4.o.src).mono ?_;rintro e u5 ⟨r5,h5a,h5b,rfl,hs,hd'⟩;have E5:=Ah (E4.o.draw hs hd');clear hs hd';go_wp2_with fail
      refine(Ar HK.o.1 E5.o (by omega) Ag HK.o.2.2 Ag Ag).mono ?_;rintro e u6 ⟨n6,rfl,hn6,hh⟩;have E6:=Ah hh;clear hh;go_wp2_with fail
      refine bK (v:=.tuple #[]) (by kernel_rfl) rfl ?_;exact⟨rfl,p4+1,l4-1,by omega,by omega,by omega,by omega,E6.o⟩
    case true=>
     go_wp2_with fail
     refine(HK.o.2.1 w _ s k (p+1) (left) lv D _ _ HK.o.1 E1.o (by omega) (by omega) (by omega) (by omega) HK.o.2.2).mono ?_;rintro e u2 ⟨rfl,p2,l2,b2a,b2b,b2c,b2d,hh⟩;have E2:=Ah hh;clear hh;go_wp2_with fail
     refine(AF E2.o.src).mono ?_;rintro e u3 ⟨b3,rfl,hs,hd'⟩;have E3:=Ah (E2.o.draw hs hd');clear hs hd';cases b3
     case true=>
      go_wp2_with fail
      refine(Ar HK.o.1 E3.o (by omega) Ag HK.o.2.2 Ag Ag).mono ?_;rintro e u4 ⟨n4,rfl,hn4,hh⟩;have E4:=Ah hh;clear hh;go_wp2_with fail
      refine aT (v:=.tuple #[]) (by kernel_rfl) rfl ?_;exact⟨rfl,p2+1,l2-1,by omega,by omega,by omega,by omega,E4.o⟩
     case false=>
      go_wp2_with fail
      refine(HK.o.2.1 w _ s k (p2+1) (l2) lv D _ _ HK.o.1 E3.o (by omega) (by omega) (by omega) (by omega) HK.o.2.2).mono ?_;rintro e u4 ⟨rfl,p4,l4,b4a,b4b,b4c,b4d,hh⟩;have E4:=Ah hh;clear hh;have EA:Hid (GS w (u4.alloc (.cells #[iZ 17,iZ 18,iZ 13,iZ 14,iZ 15] 2)) s k (p4) (l4) lv 0 D):=E4.o.keep (Aa _ _);go_wp2_with fail
      refine(Ai EA.o.src).mono ?_;rintro e u5 ⟨r5,h5a,h5b,rfl,hs,hd'⟩;obtain⟨vl,hvl,hv0,hv1⟩:=RD r5 h5a h5b
      have hcl:u5.cell? ⟨u4.heap.size,r5.toNat,none⟩=some (iZ vl):=by
       have hlt:=E4.o.src.lt;rw[hd'.cell (by simp) (by show u4.heap.size≠s.S;omega),dY _ _ _ _ _ _ (dT _ _)];exact hvl
      have E5:=Ah (EA.o.draw hs hd');clear hs hd' EA hvl;go_wp2_with fail
      refine(Ar HK.o.1 E5.o (by omega) Ag Ag Ag Ag).mono ?_;rintro e u6 ⟨n6,rfl,hn6,hh⟩;have E6:=Ah hh;clear hh;obtain⟨gc,cc,c3,hcd⟩:=E6.o.code (j:=n6) (by omega);have hdN:(k.L0-(l4-1)).toNat=n6+1:=by omega
      rw[hdN]at c3;obtain⟨⟨op0,o0⟩,_,_⟩:=hcd 0 (by omega);obtain⟨⟨a0,o1⟩,z1,hset⟩:=hcd 1 (by omega);rw[aw]at o0;have HS1:Hid _:=hset t HK.o.2.2;have HSC:Hid (∀W,Below u6.heap.size u6 W->W.cell? ⟨k.Gb,3,none⟩=some (sG gc (n6+1) cc)):=fun W hW=>Ac hW c3
      obtain⟨d,hd9⟩:∃d:Nat,d=n6+1:=⟨_,rfl⟩;rw[<-hd9]at HSC;have hsub:IntKind.i64.wrap ((d:Int)-1)=(n6:Int):=by rw[bp _ ⟨by omega,by omega⟩];omega
      have hltI:(n6:Int)<(d:Int):=by omega
      have hlt0:(0:Int)<=(n6:Int):=by omega
      clear hset hcd hdN c3 hd9 hn6;go_upto_region 28 with fail
      refine wp_region_held_drew (S:=fun W=>W.cell? ⟨k.Gb,3,none⟩=some (sG gc d cc)) (by kernel_rfl) (by exact HSC.o _ (Ad _)) (fun hHeld=> ?_);refine Ak 0 ?_;refine Ak 1 ?_;refine Ak 2 ?_;refine Ak 3 ?_;refine Ak 4 ?_;refine Ak 5 ?_;refine Ak 6 ?_;refine Ak 7 ?_;refine Ak 8 ?_;refine Ak 9 ?_;refine Ak 10 ?_;refine Ak 11 ?_;refine wpAnyH_done (by kernel_rfl) ?_ _;clear hHeld;go_simp;have o0':u6.drew.cell? ⟨gc,n6*4,none⟩=some (iZ op0):=o0;have o1':u6.drew.cell? ⟨gc,n6*4+1,none⟩=some (iZ a0):=o1;have z1':u6.drew.frozen? ⟨gc,n6*4+1,none⟩=false:=z1;have ES:Hid (GS w (u6.drew.setCell ⟨gc,n6*4+1,none⟩ (iZ t)) s k (p4+1) (l4-1) lv 0 D):=HS1.o.keep (Ad _);have EN:Hid (GS w u6.drew s k (p4+1) (l4-1) lv 0 D):=E6.o.keep (Ad _);clear HS1 o0 o1 z1 HSC hsub E6;generalize u6.drew=UD at o0' o1' z1' ES EN⊢;by_cases h17:op0=17
      case pos=>
       subst h17;go_wp2_with fail
       refine aT (v:=.tuple #[]) (by kernel_rfl) rfl ?_;exact⟨rfl,p4+1,l4-1,by omega,by omega,by omega,by omega,EN.o⟩
      case neg=>
       by_cases h18:op0=18
       case pos=>
        subst h18;go_wp2_with fail
        refine aT (v:=.tuple #[]) (by kernel_rfl) rfl ?_;exact⟨rfl,p4+1,l4-1,by omega,by omega,by omega,by omega,EN.o⟩
       case neg=>
        have g17:(op0 != 17)=true:=by simpa using h17
        have g18:(op0 != 18)=true:=by simpa using h18
        go_wp2_with fail
        refine aT (v:=.tuple #[]) (by kernel_rfl) rfl ?_;exact⟨rfl,p4+1,l4-1,by omega,by omega,by omega,by omega,ES.o⟩
end Go.Proofs.YtjpobijiblcgaaaGreat
