import Derived.Test.YtjnglocdoljgkaaGreatSw35
import Derived.Test.YtjnglocdoljgkaaGreatSw26
namespace Go.Proofs.YtjnglocdoljgkaaGreat
open Go.ChangeShapes Go.WideShapes Go.ChangeAt Go.RowKit
set_option linter.unusedVariables false
open Go.Value renaming slice → Z,int → Ac
open Option renaming some → K,none → M
open Go renaming Value → J,World → Y,Calls → Ae,TypeId → Af
open Go.RowKit renaming Hid → Aa,Below → Ad
open Go.IntKind renaming i64 → Ab
set_option maxHeartbeats 8000000
set_option maxRecDepth 100000
variable {v:J}{g n c:Nat}{l:List Int}{w u:Y}{zs:List (ML×J×J)}{q:Prop}
def UI(w:Y)(e:Ending)(a:Y):Prop:=(∃n,e=.returned (Ac Ab n)/\Yf n)/\Ad w w a
theorem Nq(k:Nat)(a:k<30):∃(s:ByteArray) (c f:Int),(Ce k).toArray=#[.string s,Ac Ab c,Ac Ab f]/\0<=c/\c<=4294967295:=by
 have h:k=0\/k=1\/k=2\/k=3\/k=4\/k=5\/k=6\/k=7\/k=8\/k=9\/k=10\/k=11\/k=12\/k=13\/k=14\/k=15\/k=16\/k=17\/k=18\/k=19\/k=20\/k=21\/k=22\/k=23\/k=24\/k=25\/k=26\/k=27\/k=28\/k=29:=oM
 clear a;rcases h with rfl|rfl|rfl|rfl|rfl|rfl|rfl|rfl|rfl|rfl|rfl|rfl|rfl|rfl|rfl|rfl|rfl|rfl|rfl|rfl|rfl|rfl|rfl|rfl|rfl|rfl|rfl|rfl|rfl|rfl<;>exact⟨_,_,_,rfl,dC,dC⟩
theorem Oz(op:Int):∃(s:ByteArray) (c f:Int),Dc op=#[.string s,Ac Ab c,Ac Ab f]/\Md c:=by
 by_cases h:0<=op/\op<=29
 . unfold Dc;rw[lS h];exact Nq _ oM
 unfold Dc;rw[lE h];exact⟨_,_,_,rfl,dC,dC⟩
theorem OE(s:ByteArray)(c f:Int)(w:Y):(Instr.field 143 (.agg #[.string s,Ac Ab c,Ac Ab f]) 1).run Tryz.prog w=.ok (Ac Ab c) w:=kR
theorem Rj{H:Nat}(h:v.ownBlock=K g\/g=H):(Z g n c).ownBlock=v.ownBlock\/(Z g n c).ownBlock=K H:=by
 rcases h with e|e
 . exact .inl e.symm
 exact .inr (by rw[e];rfl)
theorem TE(h:∀z∈l,∃b:Nat,z=(b:Int)/\b<n):ints (l.map Int.toNat)=l:=by
 induction l with
 |nil=>rfl
 | cons x r f=>obtain⟨b,e,_⟩:=h x sP;(have:=f λz a=>h z (by simp[a]));unfold ints at this⊢;rw[mo,mo,this,e];rfl
theorem WX(h:Rd w 1 v l (l.flatMap Ah))(a:∀z∈l,∃b:Nat,z=(b:Int)/\b<n):Iu w v (l.map Int.toNat):=by unfold Iu;rw[kW,Dk,TE a];exact h
theorem Xc(h:∀z∈l,∃b:Nat,z=(b:Int)/\b<n):∀y∈l.map Int.toNat,y<n:= λy a=>by obtain⟨z,f,e⟩:=lK.1 a;obtain⟨b,g,i⟩:=h z f;omega
theorem WV{f:Y}{B k:Nat}{e:Af}{s:J}{xs:List J}(h:u.ownsRow B e k s n xs)(l:∀b,s.ownBlock=K b->f.heap[b]?=u.heap[b]?):f.ownsRow B e k s n xs:=by
 refine⟨h.1,?_⟩;rcases h.2 with h|⟨g,cap,i,a,j,m,p⟩
 . exact .inl h
 exact .inr ⟨g,cap,i,a,j,by rw[l g (by rw[a];rfl)];exact m,p⟩
theorem Ut{q:Prop}(h:q:=by
 rcases h.own.2 with⟨e0,_⟩|⟨g,cap,cur',e0,_,hgg,_⟩
 . rw[e0]at hbb;cases hbb
 rw[e0]at hbb;simp only[Value.ownBlock,kK]at hbb;subst hbb;rw[e1]at hgg;injection hgg with q
 injection q with _ q
 exact absurd q (by decide)):q:=h
theorem Ia.fr{i:Y}{V:J}{m G:Nat}{s:List (ML×J×J)}{x:GV}{bad:Bool}{I:List Nat}{C:List Int}(h:Ia w u V n s zs)(f:Gr w u G m x bad I C)(t:Ad w w i)(y:∀b,b< ↑u->b≠G->b≠x.gi->b≠x.gc->i.heap[b]?=u.heap[b]?):Ia w i V n s zs:=by
 refine⟨WV h.own λb hbb=> ?_,h.len,h.sub,t⟩;have z:=(h.own.lt b hbb).2;have l:∀(j k n' c' a:Nat) (p:List J),u.ownsRow j 2 k (Z a n' c') n' p->b≠a:= λj k n' c' a p A e=>by subst e;obtain⟨_,B,e1⟩:=AD A;exact Ut
 refine y b z (λe=> ?_) (l _ _ _ _ _ _ f.ig) (l _ _ _ _ _ _ f.cost);subst e;have e1:=f.gR;unfold Ar at e1;exact Ut
theorem Ia.same{b:Y}{e:List (ML×J×J)}(h:Ia w u (Z g n c) n e zs)(f:Ia w b (Z g n c) n e zs)(j:Nat)(a:j<n*3):b.cell? ⟨g,j,M⟩=u.cell? ⟨g,j,M⟩:=by rw[lV h.own j a,lV f.own j a]
structure FcR(w w1:Y)(v:VP)(p:MP)(f:MF)(gc:J)(FB:Nat)(r:Fy)(z1 z2 z3 z4:J)(cv:J)(costs:List Int):Prop where
 pb:Ar w1 w #[v.r,v.k,v.f,v.t] 28
 fb:Ar w1 FB #[Ac Ab r.ch,Ac Ab r.at_,z1,z2,z3,z4] 45
 rf:Dg w1 z1 z2 z3 z4 r
 rp:Cz w1 v p
 rc:Rd w1 4 gc f.ch (f.ch.flatMap MI.cells)
 cs:Rd w1 1 cv costs (costs.flatMap Ah)
 gG:Ad w w w1
theorem Q0(h:q:=by go_wp2_with fail;go_ret;exact⟨⟨-1,rfl,by decide,by decide⟩,E4.o.gG.trans (F0.o.1.gG.mono E4.o.gG.size)⟩):q:=h
theorem Q1(h:q:=by go_wp2_with fail;go_ret;exact⟨⟨-1,rfl,by decide,by decide⟩,E2.o.2⟩):q:=h
theorem Uu{q:Prop}(h:q:=by
 go_wp2_with fail;go_roundw;case rel=>exact⟨qb+1,m0,by omega,rfl,by go_num,trivial,HM⟩
 simp[intOf];omega):q:=h
theorem JK(v:VP)(p:MP)(fi:Int)(cv:J)(a8:List Int)(w:Y)(hs:p.small)(hw:p.wf)(cj:CO fi)(h:Cz w v p)(hc:Rd w 1 cv a8 (a8.flatMap Ah))(dP:a8.length<=1048576):
 Ae Tryz.prog 122 #[.agg #[v.r,v.k,v.f,v.t],Ac Ab fi,cv] w (UI w):=by
 obtain⟨r1,r3,k1,k3,t1,t3,f1,f3,rfl⟩:=h.sl;obtain⟨ca,cc,ec⟩:=Rd.fu hc;subst ec;obtain⟨cY,hi,bC,bF,cX⟩:=lU Bt;obtain⟨j0,hj,dx,dz,dA⟩:=lU DL;have H:Aa (p.small/\p.wf/\CO fi/\Cz w ⟨Z r1 p.a7 r3,Z k1 p.aC k3,Z f1 p.cC f3,Z t1 p.dr t3⟩ p/\Rd w 1 (Z ca a8 cc) a8 (a8.flatMap Ah)):=⟨hs,hw,cj,h,hc⟩
 clear hs hw cj h hc;have E0:Aa (Ar (w.alloc (.cells #[Z r1 p.a7 r3,Z k1 p.aC k3,Z f1 p.cC f3,Z t1 p.dr t3] 28)) w #[Z r1 p.a7 r3,Z k1 p.aC k3,Z f1 p.cC f3,Z t1 p.dr t3] 28/\Ad w w (w.alloc (.cells #[Z r1 p.a7 r3,Z k1 p.aC k3,Z f1 p.cC f3,Z t1 p.dr t3] 28))):=⟨Ar.new _ _ _,Ag _ _⟩
 go_enter Tryz.func122,Tryz.ntmps122;go_upto_region 1 with fail
 refine An (λu=>Aa (Ar u w #[Z r1 p.a7 r3,Z k1 p.aC k3,Z f1 p.cC f3,Z t1 p.dr t3] 28/\Ad w w u)) E0 ?_
 rintro U0 E1;clear E0;obtain⟨p0,p1,p2,p3⟩:=Bi E1.o.1;go_wp2_with fail;refine(CZ ⟨Z r1 p.a7 r3,Z k1 p.aC k3,Z f1 p.cC f3,Z t1 p.dr t3⟩ p U0 H.o.1 H.o.2.1 (H.o.2.2.2.1.bM E1.o.2 lR)).mono ?_;rintro e u1 ⟨⟨n,rfl,hn⟩,L⟩;have E2:=Ap (ji (E1.o.1.bM L) (Ai E1.o.2 lR L));clear L E1 p0 p1 p2 p3;clear U0;have p2:=E2.o.1.cell 2;simp only[kL,jt,kI]at p2;by_cases aI:n=0;case neg=>clear hn;exact Q1
 subst aI;have bI:=Ap hn;clear hn;by_cases dm:fi<0;case pos=>
  have dV:decide (fi<0)=true:=by simpa using dm
  exact Q1
 by_cases dW:(p.cC:Int)<=fi;case pos=>exact Q1
 obtain⟨q,rfl⟩:=kU (show 0<=fi from oM);obtain⟨f,hf⟩:∃f,p.cC[q]?=K f:=⟨_,an oM⟩;obtain⟨gk,ok,ck,bL,g,bt,m0,m1,m2,m3⟩:=GO H.o.2.2.2.1.cC hf;simp only[jc,lO]at bL;obtain⟨rfl,rfl⟩:=bL;obtain⟨g1,g3,g4,g6,g7,g9,rfl⟩:=C5 bt;have eM:(q:Int)<(p.cC:Int):=oM;have HF:Aa (p.cC[q]?=K f/\f.small/\Dt w ⟨Z g1 f.d5 g3,Z g4 f.en g6,Z g7 f.ch g9⟩ f/\0<f.ch.length):=⟨hf,H.o.1.func f (i8 hf),bt,Nat.pos_of_ne_zero (bI.o.parts.2.2.1.2.2.1 q (iV.1 hf).1 f hf).iG⟩
 simp only[]at m0 m1 m2 m3;rw[<-E2.o.2.cell (jC m3)]at m3;clear bt hf m0 m1 m2;go_wp2_with fail;refine(DT (Z g7 f.ch g9) f.ch u1 HF.o.2.1.2.2 (Rd.bM HF.o.2.2.1.2.2 E2.o.2 lR)).mono ?_;rintro e u2 ⟨r,vb,vo,vi,vl,rfl,bf,br,L⟩;obtain⟨v1,c1,v2,c2,v3,c3,F,c4,rfl,rfl,rfl,rfl⟩:=La br;have E3:Aa (FcR w (u2.alloc (.cells #[Ac Ab r.ch,Ac Ab r.at_,Z v1 r.ej c1,Z v2 r.gJ c2,Z v3 r.gS c3,Z F r.gI c4] 45)) ⟨Z r1 p.a7 r3,Z k1 p.aC k3,Z (K ⟨gk,ok,M⟩) p.cC f3,Z t1 p.dr t3⟩ p f (Z g7 f.ch g9) u2 r (Z v1 r.ej c1) (Z v2 r.gJ c2) (Z v3 r.gS c3) (Z F r.gI c4) (Z ca a8 cc) a8):=by have b2:=Ag u2 (.cells #[Ac Ab r.ch,Ac Ab r.at_,Z v1 r.ej c1,Z v2 r.gJ c2,Z v3 r.gS c3,Z F r.gI c4] 45);have b3:Ad w w (u2.alloc (.cells #[Ac Ab r.ch,Ac Ab r.at_,Z v1 r.ej c1,Z v2 r.gJ c2,Z v3 r.gS c3,Z F r.gI c4] 45)):=Ai (Ai E2.o.2 lR L) lR b2;exact⟨(E2.o.1.bM L).bM b2,Ar.new _ _ _,br.iB b2 lR,H.o.2.2.2.1.bM b3 lR,Rd.bM HF.o.2.2.1.2.2 b3 lR,Rd.bM H.o.2.2.2.2 b3 lR,b3⟩
 have aQ:=Ap bf;have eH:r.gI.length<=1024:=(Gw bf).1;clear bf br L E2 p2 m3;clear u1;go_upto_region 5 with fail
 generalize u2.heap.size=FB at E3⊢;refine An (λu=>Aa (FcR w u ⟨Z r1 p.a7 r3,Z k1 p.aC k3,Z (K ⟨gk,ok,M⟩) p.cC f3,Z t1 p.dr t3⟩ p f (Z g7 f.ch g9) FB r (Z v1 r.ej c1) (Z v2 r.gJ c2) (Z v3 r.gS c3) (Z F r.gI c4) (Z ca a8 cc) a8)) E3 ?_;rintro s E4;clear E3;clear u2;obtain⟨y0,y1,y2,y3,y4,y5⟩:=Dq E4.o.fb;by_cases am:r.ch=0;case neg=>go_wp2_with fail;go_ret;exact⟨⟨-1,rfl,dC,dC⟩,E4.o.gG⟩
 obtain⟨gb,ob,dJ,go,oo,dL,E,O,bP,bQ,aJ,bX⟩:=Vd aQ.o am E4.o.rf;simp only[jc,lO]at bP bQ;obtain⟨rfl,rfl⟩:=bP;obtain⟨rfl,cM,rfl⟩:=bQ;have aA:=Ap (ji cM (ji aJ bX));clear cM aJ bX;rw[am]at y0;go_wp2_with fail;have HI:=Ap (aQ.o.ii am);have dF:=Ap am;clear am;have eG:=HI.o.nb;have dQ:=HI.o.len;have G0:Aa (∃vI T bad C,Gp s (s.alloc (.cells #[Ac Ab 0,Ac Ab r.at_,Z (K ⟨gb,ob,M⟩) r.ej c1,Z (K ⟨go,oo,M⟩) r.gJ c2,Z v3 r.gS c3,Z F r.gI c4,Z M 0 0,Z M 0 0,.bool false] 203)) s 0 r.at_ (Z (K ⟨gb,ob,M⟩) r.ej c1) (Z (K ⟨go,oo,M⟩) r.gJ c2) (Z v3 r.gS c3) (Z F r.gI c4) vI T bad (List.range 0) C/\C.length=0):=⟨Z M 0 0,Z M 0 0,false,[],⟨Ar.new _ _ _,Nat.le_refl _,lq _ _ _ _,lq _ _ _ _, λb hb=>(by cases hb),Ag _ _, λy hy=>(by cases hy)⟩,rfl⟩
 clear y0 y1 y2 y3 y4 y5;generalize hG:s.heap.size=G at G0⊢;have HG:=Ap hG;clear hG;go_loopw [10,11,12,13] (λi _ _ _ wr=>∃k:Nat,k<= ↑r.ej/\i=Ac Ab k/\Aa (∃vI T bad C,Gp s wr G 0 r.at_ (Z (K ⟨gb,ob,M⟩) r.ej c1) (Z (K ⟨go,oo,M⟩) r.gJ c2) (Z v3 r.gS c3) (Z F r.gI c4) vI T bad (List.range k) C/\ ↑C=k)) (λi _ _ _ _=> ↑r.ej-(intOf i).toNat)
 case atStart=>exact⟨0,oM,rfl,G0⟩
 clear G0;obtain⟨k,hk,rfl,E5⟩:=hrel;obtain⟨vI,T,bad,C,aq,bV⟩:=E5.o;have A:Aa (Gp s wr G 0 r.at_ (Z (K ⟨gb,ob,M⟩) r.ej c1) (Z (K ⟨go,oo,M⟩) r.gJ c2) (Z v3 r.gS c3) (Z F r.gI c4) vI T bad (List.range k) C/\ ↑C=k):=⟨aq,bV⟩
 clear E5 aq bV;have y2:wr.cell? ⟨FB,2,M⟩=K (Z (K ⟨gb,ob,M⟩) r.ej c1):=Ak A.o.1.gG (Dq E4.o.fb).2.2.1;by_cases bp:k< ↑r.ej
 case neg=>
  have y5:wr.cell? ⟨FB,5,M⟩=K (Z F r.gI c4):=Ak A.o.1.gG (Dq E4.o.fb).2.2.2.2.2;obtain rfl:k=r.ej.length:=oM;have bi:=A.o.1;rw[aA.o.1]at bi;obtain⟨gi,ci,gc,bK,cD⟩:=bi.gr A.o.2 aA.o.2.1;have aR:Aa (GF s r.ej ⟨0,r.at_,gb,ob,c1,go,oo,c2,Z v3 r.gS c3,Z F r.gI c4,gi,ci,gc,bK⟩ E O):=aA.o.2.2 _ rfl rfl rfl rfl;have D:=Ap cD;clear cD bi A;generalize (⟨0,r.at_,gb,ob,c1,go,oo,c2,Z v3 r.gS c3,Z F r.gI c4,gi,ci,gc,bK⟩:GV)=xv at D aR;obtain⟨ys,bB,cU,aM⟩:=E4.o.rf.gI;have HY:=Ap (ji bB (ji aM (ji ((λy hy=>⟨(aM y hy).1.fu,(aM y hy).2.fu⟩):(∀y∈ys,PZ y)) ((by rw[<-bB,kW]):ys.length= ↑r.gI))))
  have cW:=Ap (Rd.bM cU D.o.gG lR);clear bB cU aM;go_wp2_with fail;refine(OP (Z F r.gI c4) r.gI ys wr HY.o.2.2.2 oM cW.o HY.o.2.2.1).mono ?_;rintro e u5 ⟨V,zs,rfl,hI⟩;obtain⟨az,cz,eV⟩:∃a c,V=Z a r.gI c:=by obtain⟨a,c,e⟩:=Rd.fu (Rd.gM hI.own);exact⟨a,c,e⟩
  subst eV;have F0:Aa (∃bd I C',Gr s u5 G r.ej xv bd I C'/\Ia s u5 (Z az r.gI cz) r.gI ys zs):=⟨_,_,_,D.o.bM hI.gG,Bb hI.own D.o.gG.size,hI.len,hI.sub,Ai D.o.gG lR hI.gG⟩
  clear hI cW D y5;go_wp2_with fail;go_loopw [15] (λi wr=>∃k:Nat,k<= ↑r.gI/\i=Ac Ab k/\Aa (∃bd I C',Gr s wr G r.ej xv bd I C'/\Ia s wr (Z az r.gI cz) r.gI ys zs)) (λi _=> ↑r.gI-(intOf i).toNat)
  case atStart=>exact⟨0,oM,rfl,F0⟩
  clear F0;obtain⟨k,hk,rfl,E5⟩:=hrel;obtain⟨bd,I,C',cA,cH⟩:=E5.o;have A:Aa (Gr s wr G r.ej xv bd I C'/\Ia s wr (Z az r.gI cz) r.gI ys zs):=⟨cA,cH⟩
  clear cA cH E5;by_cases bp:k< ↑r.gI
  case pos=>
   have cG:(k:Int)<(r.gI:Int):=oM;obtain⟨R,dg⟩:∃R,az=K ⟨R,0,M⟩:=by
    rcases Bz A.o.2.own with⟨e,h0⟩|⟨R,c,e⟩
    . omega
    simp only[jc]at e;exact⟨R,e.1⟩
   subst dg;obtain⟨z,a1,b1,d1,B,hz,bG,bR,bS,q0,q1,q2⟩:=A.o.2.at_ HY.o.2.2.1 bp;(have aD:Aa (z.1∈r.gI):=by show z.1∈r.gI;rw[<-HY.o.1];exact lK.2 ⟨z,bG,rfl⟩);obtain⟨⟨hd,aE,dq⟩,aU,bZ,ce⟩:=HI.o.loop _ aD.o;obtain⟨l,eT,eU⟩:=z;simp only[]at bR bS q0 q1 q2 aE aU bZ ce aD;subst bR bS;rw[aE]at q0;have HZ:Aa (l∈r.gI/\Kq s ⟨Z a1 l.back b1,Z d1 l.ej B⟩ l/\l.head=(hd:Int)/\hd< ↑r.ej/\(∀z∈l.ej,∃b:Nat,z=(b:Int)/\b< ↑r.ej)/\l.small):=⟨aD.o,HY.o.2.1 _ bG,aE,dq,aU,by unfold ML.small;omega⟩
   clear hz bG aE aU bZ ce aD;have HC:Aa (∀W:Y,Ad s s W->W.cell? w=K (Z r1 p.a7 r3)/\W.cell? ⟨w,1,M⟩=K (Z k1 p.aC k3)/\W.cell? ⟨w,2,M⟩=K (Z (K ⟨gk,ok,M⟩) p.cC f3)/\W.cell? ⟨w,3,M⟩=K (Z t1 p.dr t3)):= λW hW=>⟨Ak hW (Bi E4.o.pb).1,Ak hW (Bi E4.o.pb).2.1,Ak hW (Bi E4.o.pb).2.2.1,Ak hW (Bi E4.o.pb).2.2.2⟩
   have HL:Aa (∀(W:Y),Ad wr wr W->W.cell? ⟨R,k*3,M⟩=K (Ac Ab (hd:Int))/\W.cell? ⟨R,k*3+1,M⟩=K (Z a1 l.back b1)/\W.cell? ⟨R,k*3+2,M⟩=K (Z d1 l.ej B)):= λW hW=>⟨Ak hW q0,Ak hW q1,Ak hW q2⟩
   clear q0 q1 q2;(go_upto_region 27 with fail);have N:Aa (Gr s wr.drew G r.ej xv bd I C'/\Ia s wr.drew (Z R r.gI cz) r.gI ys zs/\Ad wr wr wr.drew):=⟨A.o.1.bM (Aj _),A.o.2.bM (Aj _),Aj _⟩
   refine wp_region_held_drew (S:= λW=>W.cell? w=K (Z r1 p.a7 r3)/\W.cell? ⟨w,1,M⟩=K (Z k1 p.aC k3)/\W.cell? ⟨w,2,M⟩=K (Z (K ⟨gk,ok,M⟩) p.cC f3)/\W.cell? ⟨w,3,M⟩=K (Z t1 p.dr t3)/\W.cell? ⟨R,k*3,M⟩=K (Ac Ab (hd:Int))/\W.cell? ⟨R,k*3+1,M⟩=K (Z a1 l.back b1)/\W.cell? ⟨R,k*3+2,M⟩=K (Z d1 l.ej B)) kR (by obtain⟨h1,h2,h3,h4⟩:=HC.o _ N.o.1.gG;obtain⟨h5,h6,h7⟩:=HL.o _ N.o.2.2;exact⟨h1,h2,h3,h4,h5,h6,h7⟩) (λhHeld=> ?_)
   clear A;generalize wr.drew=UD at N hHeld⊢;refine AE 0 ?_;refine AE 1 ?_;refine AE 2 ?_;refine AE 3 ?_;refine AE 4 ?_;refine AE 5 ?_;refine rdH 6 ?_;intro KC hKC;go_simp;have aZ:=Jl ⟨Z r1 p.a7 r3,Z k1 p.aC k3,Z (K ⟨gk,ok,M⟩) p.cC f3,Z t1 p.dr t3⟩ p (q:Int) ⟨Z a1 l.back b1,Z d1 l.ej B⟩ l UD H.o.1 H.o.2.1 H.o.2.2.1 (E4.o.rp.bM N.o.1.gG lR) HZ.o.2.2.2.2.2 (HZ.o.2.1.bM N.o.1.gG lR);rw[HZ.o.2.2.1]at aZ;refine aZ.mono ?_;clear aZ;rintro e u6 ⟨⟨nf,rfl,cJ⟩,L⟩;have E8:=Ap (ji (N.o.1.bM L) (ji (N.o.2.1.bM L) (Ai N.o.2.2 lR L)));have bJ:=Ap cJ;clear cJ L N;refine hKC.o _ _ (by obtain⟨h1,h2,h3,h4⟩:=HC.o _ E8.o.1.gG;obtain⟨h5,h6,h7⟩:=HL.o _ E8.o.2.2;exact⟨h1,h2,h3,h4,h5,h6,h7⟩) (λhHeld=> ?_);clear hKC KC;refine AE 7 ?_;refine wpAnyH_done kR ?_ _;clear hHeld;by_cases aI:nf=0;(case neg=>(have eF:(nf != 0)=true:=by simpa using aI);go_wp2_with fail;go_ret;exact⟨⟨-1,rfl,dC,dC⟩,E4.o.gG.trans (E8.o.1.gG.mono E4.o.gG.size)⟩);subst aI;obtain⟨hb,c,bj,aY⟩:∃hb c,r.ej[hd]?=K hb/\DK p.dr (q:Int) hb.gK=K c:=by
    rcases bJ.o with⟨_,e⟩|⟨f',r',ho,hb,h1,h2⟩
    . cases e
    (have B:f'=f:=by have:=ho.2.2.1;rw[kM,HF.o.1]at this;exact(kN this).symm);subst B;have e2:r'=r:=Bc.one ho.2.2.2.1 aQ.o;subst e2;rw[HZ.o.2.2.1,kM]at h1;rcases h2 with⟨_,e⟩|⟨c,g,h2,_⟩
    . cases e
    exact⟨hb,c,h1,h2⟩
   obtain⟨bT,cZ,dG,dN,eb,j0,_,_,_⟩:=G4 E4.o.rf.ej bj;obtain⟨ja,je,e2,e3,aS,aG⟩:=HI.o.gR hd hb bj;rw[e2]at j0 aY;simp only[kK,mA,mg]at eb;obtain⟨rfl,rfl⟩:=eb;have HJ:Aa (s.cell? ⟨gb,ob+hd*3,M⟩=K (Ac Ab (ja:Int))/\s.cell? ⟨FB,2,M⟩=K (Z (K ⟨gb,ob,M⟩) r.ej c1)/\DK p.dr (q:Int) (ja:Int)=K c):=⟨j0,(Dq E4.o.fb).2.2.1,aY⟩
   have dX:(hd:Int)<(r.ej:Int):=oM;clear j0 bj e2 e3 aY aS aG bJ;(go_upto_region 29 with fail);have N:=Ap (ji (E8.o.1.bM (Aj _)) (ji (E8.o.2.1.bM (Aj _)) (Ai E8.o.2.2 lR (Aj _))));refine wp_region_held_drew (S:= λW=>W.cell? w=K (Z r1 p.a7 r3)/\W.cell? ⟨w,1,M⟩=K (Z k1 p.aC k3)/\W.cell? ⟨w,2,M⟩=K (Z (K ⟨gk,ok,M⟩) p.cC f3)/\W.cell? ⟨w,3,M⟩=K (Z t1 p.dr t3)/\W.cell? ⟨R,k*3,M⟩=K (Ac Ab (hd:Int))/\W.cell? ⟨R,k*3+1,M⟩=K (Z a1 l.back b1)/\W.cell? ⟨R,k*3+2,M⟩=K (Z d1 l.ej B)/\W.cell? ⟨FB,2,M⟩=K (Z (K ⟨gb,ob,M⟩) r.ej c1)/\W.cell? ⟨gb,ob+hd*3,M⟩=K (Ac Ab (ja:Int))) kR (by obtain⟨h1,h2,h3,h4⟩:=HC.o _ N.o.1.gG;obtain⟨h5,h6,h7⟩:=HL.o _ N.o.2.2;exact⟨h1,h2,h3,h4,h5,h6,h7,Ak N.o.1.gG HJ.o.2.1,Ak N.o.1.gG HJ.o.1⟩) (λhHeld=> ?_)
   clear E8;generalize u6.drew=UD at N hHeld⊢;refine AE 0 ?_;refine AE 1 ?_;refine AE 2 ?_;refine AE 3 ?_;refine AE 4 ?_;refine AE 5 ?_;refine AE 6 ?_;refine AE 7 ?_;refine AE 8 ?_;refine AE 9 ?_;refine AE 10 ?_;refine AE 11 ?_;refine AE 12 ?_;refine AE 13 ?_;refine AE 14 ?_;refine AE 15 ?_;refine AE 16 ?_;refine AE 17 ?_;refine AE 18 ?_;refine rdH 19 ?_;intro KC hKC;go_simp;refine(KW ⟨Z r1 p.a7 r3,Z k1 p.aC k3,Z (K ⟨gk,ok,M⟩) p.cC f3,Z t1 p.dr t3⟩ p (q:Int) (ja:Int) UD H.o.1 (E4.o.rp.bM N.o.1.gG lR)).mono ?_;rintro e u7 ⟨⟨nc,rfl,cI⟩,L⟩;have Q:Aa (Gr s u7 G r.ej xv bd I C'/\Ia s u7 (Z R r.gI cz) r.gI ys zs/\Ad wr wr u7):=⟨N.o.1.bM L,N.o.2.1.bM L,Ai N.o.2.2 lR L⟩
   obtain⟨kt,ct,dh,aH⟩:∃(kt:Nat) (ct:MT),nc=(kt:Int)/\p.dr[kt]?=K ct:=by
    rcases cI with⟨_,e⟩|⟨kt,ct,e,h1,_⟩
    . rw[HJ.o.2.2]at e;cases e
    exact⟨kt,ct,e,h1⟩
   subst dh;have eu:=(iV.1 aH).1;have eo:(kt:Int)<(p.dr:Int):=oM;obtain⟨gt,ot,et,cR⟩:∃gt ot,t1=K ⟨gt,ot,M⟩/\s.cell? ⟨gt,ot+kt*4+3,M⟩=K (Ac .u32 ct.init):=by
    rcases E4.o.rp.dr.2 with⟨e0,_⟩|⟨gt,ot,c',B,hc⟩
    . omega
    simp only[jc,lO]at B;exact⟨gt,ot,B.1,Rd.elem MT.gH hc kt ct aH 3 _ rfl⟩
   subst et;have aF:0<=ct.init/\ct.init<=4294967295:=by have:=(H.o.2.1.dr ct (i8 aH)).2.2.2;simpa[Ta,Lit.wf,IntKind.min,IntKind.max,IntKind.signed,IntKind.bits]using this
   have dw:=Ak Q.o.1.gG cR;have eQ:IntKind.i64.wrap ct.init=ct.init:=mY _ ⟨oM,oM⟩;clear cI aH L N cR;refine hKC.o _ _ (by obtain⟨h1,h2,h3,h4⟩:=HC.o _ Q.o.1.gG;obtain⟨h5,h6,h7⟩:=HL.o _ Q.o.2.2;exact⟨h1,h2,h3,h4,h5,h6,h7,Ak Q.o.1.gG HJ.o.2.1,Ak Q.o.1.gG HJ.o.1⟩) (λhHeld=> ?_);clear hKC KC;refine AE 20 ?_;refine AE 21 ?_;refine rdH 22 ?_;intro KC hKC;go_simp;refine hKC.o _ _ (by obtain⟨h1,h2,h3,h4⟩:=HC.o _ Q.o.1.gG;obtain⟨h5,h6,h7⟩:=HL.o _ Q.o.2.2;exact⟨h1,h2,h3,h4,h5,h6,h7,Ak Q.o.1.gG HJ.o.2.1,Ak Q.o.1.gG HJ.o.1⟩) (λhHeld=> ?_);clear hKC KC;refine AE 23 ?_;refine rdH 24 ?_;intro KC hKC;go_simp;refine(KY s u7 G r.ej xv bd I C' E O hd (Z a1 l.back b1) (Z d1 l.ej B) l.back (l.ej.map Int.toNat) ct.init oM HZ.o.2.2.2.1 aF Q.o.1 aR.o HZ.o.2.1.1 HZ.o.2.2.2.2.2.1 (WX HZ.o.2.1.2 HZ.o.2.2.2.2.1) (by rw[kW];exact HZ.o.2.2.2.2.2.2) (Xc HZ.o.2.2.2.2.1)).mono ?_;rintro e u8 ⟨rfl,dH,I2,C2,ao,bg⟩;have d8:Aa (∃bd I C',Gr s u8 G r.ej xv bd I C'/\Ia s u8 (Z R r.gI cz) r.gI ys zs):=⟨_,_,_,ao,Q.o.2.1.fr Q.o.1 ao.gG bg⟩
   have aT:=Ap ao.gG;(have bu:Aa (∀j,j<r.gI.length*3->u8.cell? ⟨R,j,M⟩=u7.cell? ⟨R,j,M⟩):= λj hj=>Ia.same Q.o.2.1 (Q.o.2.1.fr Q.o.1 ao.gG bg) j hj);clear ao bg dw;refine hKC.o _ _ (by obtain⟨h1,h2,h3,h4⟩:=HC.o _ aT.o;obtain⟨h5,h6,h7⟩:=HL.o _ Q.o.2.2;exact⟨h1,h2,h3,h4,(bu.o _ oM).trans h5,(bu.o _ oM).trans h6,(bu.o _ oM).trans h7,Ak aT.o HJ.o.2.1,Ak aT.o HJ.o.1⟩) (λhHeld=> ?_);clear hKC KC;refine wpAnyH_done kR ?_ _;clear hHeld;go_wp2_with fail;go_roundw;(case rel=>exact⟨k+1,oM,by go_num,d8⟩);exact oI
  case neg=>
   have d7:wr.cell? ⟨FB,2,M⟩=K (Z (K ⟨gb,ob,M⟩) r.ej c1):=Ak A.o.1.gG (Dq E4.o.fb).2.2.1;have cQ:=A.o.1.gG.size;go_wp2_with (at_make;refine mX _ rfl _ _ 56 rfl s 4 j0 (.bool false) 1 Tryz.underlying56 hj dx dz Ab Ab _ _ r.ej rfl rfl rfl rfl (by rw[dA];omega) oX cQ ?_;intro w3 hown hgrow;rw[T9]at hown);have bY:Ad wr wr w3:=(lQ _ _).grown hgrow lR (λk hk=>by cases hk);have F1:Aa (Gr s w3 G r.ej xv bd I C'/\∃P,w3.ownsRow s 4 1 (Z wr r.ej r.ej) r.ej (bv P r.ej)):=⟨A.o.1.bM bY,_,hown⟩
   clear hown hgrow bY cQ A d7;generalize wr.heap.size=gn at F1⊢;go_loopw [17] (λi wr=>∃k:Nat,k<= ↑r.ej/\i=Ac Ab k/\Aa (Gr s wr G r.ej xv bd I C'/\∃P,wr.ownsRow s 4 1 (Z gn r.ej r.ej) r.ej (bv P r.ej))) (λi _=> ↑r.ej-(intOf i).toNat)
   (case atStart=>exact⟨0,oM,rfl,F1⟩);clear F1;obtain⟨k,eh,rfl,E1⟩:=hrel;by_cases du:k< ↑r.ej
   case pos=>
    have cG:(k:Int)<(r.ej:Int):=oM;obtain⟨P,hP⟩:=E1.o.2;have c0:=lV hP k oM;rw[Kw _ _ _ du]at c0;have z0:=hP.frozenAt k;have E2:Aa (Gr s (wr.setCell ⟨gn,k,M⟩ (.bool true)) G r.ej xv bd I C'/\∃P,(wr.setCell ⟨gn,k,M⟩ (.bool true)).ownsRow s 4 1 (Z gn r.ej r.ej) r.ej (bv P r.ej)):=by
     obtain⟨_,dM,B⟩:=AD hP;obtain⟨_,c2,e2⟩:=AD E1.o.1.ig;obtain⟨_,c3,e3⟩:=AD E1.o.1.cost;have e4:=E1.o.1.gR;unfold Ar at e4;refine⟨E1.o.1.other (AD hP).1 (λq=> ?_) (λq=> ?_) (λq=> ?_),_,O8 hP⟩
     . rw[q,e4]at B;cases B
     . rw[q,e2]at B;cases B
     rw[q,e3]at B;cases B
    clear hP;go_wp2_with fail;go_roundw;(case rel=>exact⟨k+1,oM,by go_num,E2⟩);exact oI
   case neg=>
    obtain⟨P,hP⟩:=E1.o.2;obtain⟨_,_,p6,_,_,_⟩:=E1.o.1.cells;have aJ:=aA.o.2.1;obtain⟨y0,dy,dB,i0⟩:=E1.o.1.iY aJ;have eL:(0:Int)<(r.ej:Int):=oM;clear dy;go_wp2_with fail;refine(KZ s wr G r.ej xv bd I C' E O gn r.ej y0 P oM dB E1.o.1 aR.o hP).mono ?_;rintro e u9 ⟨gB,de,L9,rfl,hW⟩;have F2:=Ap hW;clear hW hP E1 p6 i0;go_wp2_with fail;go_loopw [19,20] (λm b dE=>∃(q:Nat) (m0:Int),q<= ↑r.ej/\m=Ac Ab m0/\b=Ac Ab q/\dE=u9/\Aa (Md m0)) (λ_ b _=> ↑r.ej-(intOf b).toNat)
    (case atStart=>exact⟨0,0,oM,rfl,rfl,rfl,by show Md 0;exact⟨oM,oM⟩⟩);obtain⟨qb,m0,eP,rfl,rfl,rfl,HM⟩:=hrel;obtain⟨_,_,p6,_,p8,_⟩:=F2.o.gr.cells;have d7:wr.cell? ⟨FB,2,M⟩=K (Z (K ⟨gb,ob,M⟩) r.ej c1):=Ak F2.o.gr.gG (Dq E4.o.fb).2.2.1;by_cases cE:qb< ↑r.ej
    case neg=>
     cases de
     . go_wp2_with fail;go_ret;exact⟨⟨m0,rfl,by have:=HM.o.1;omega,HM.o.2⟩,E4.o.gG.trans (F2.o.gr.gG.mono E4.o.gG.size)⟩
     go_wp2_with fail;go_ret;exact⟨⟨-1,rfl,dC,dC⟩,E4.o.gG.trans (F2.o.gr.gG.mono E4.o.gG.size)⟩
    have eE:(qb:Int)<(r.ej:Int):=oM;obtain⟨m,hm⟩:∃m,r.ej[qb]?=K m:=⟨_,an cE⟩;obtain⟨bT,cZ,a1,B,eb,_,j1,_,_⟩:=G4 E4.o.rf.ej hm;obtain⟨ja,je,e2,e3,aS,aG⟩:=HI.o.gR qb m hm;rw[e3]at j1;simp only[kK,mA,mg]at eb;obtain⟨rfl,rfl⟩:=eb;have i1:=Ak F2.o.gr.gG j1;obtain⟨x,hx⟩:∃x,f.ch[je]?=K x:=⟨_,an aG⟩;obtain⟨dO,eS,dK,ei,d6,_,_,_⟩:=KL E4.o.rc hx;simp only[jc,lO]at ei;obtain⟨rfl,rfl⟩:=ei;have x0:=Ak F2.o.gr.gG d6;have dt:(je:Int)<(f.ch:Int):=oM;obtain⟨y,hy,dD,i0⟩:=F2.o.gr.iY cE;have eR:(y:Int)<(r.ej:Int):=oM;obtain⟨c,_,hc,b0,_⟩:=F2.o.at_ dD;clear j1 d6 e2 e3 hm hx hy;by_cases ae:x.op=29;(case neg=>(have eJ:(x.op==29)=false:=by simpa using ae);exact Uu);rw[ae]at x0;clear ae;by_cases dR:c>m0;(case pos=>go_wp2_with fail;go_roundw;(case rel=>exact⟨qb+1,c,oM,rfl,by go_num,trivial,by have:=HM.o.1;show Md c;exact⟨oM,hc.2⟩⟩);exact oI);exact Uu
 have cG:(k:Int)<(r.ej:Int):=oM;obtain⟨m,hm⟩:∃m,r.ej[k]?=K m:=⟨_,an bp⟩;obtain⟨bT,cZ,a1,B,eb,j0,j1,_,_⟩:=G4 E4.o.rf.ej hm;obtain⟨ja,je,e2,e3,aS,aG⟩:=HI.o.gR k m hm;rw[e2]at j0;rw[e3]at j1;simp only[kK,mA,mg]at eb;obtain⟨rfl,rfl⟩:=eb;have i0:=Ak A.o.1.gG j0;have HJ:=Ap (ji j1 ((Dq E4.o.fb).2.2.1));clear j0 j1 hm e2 e3;go_wp2_with fail;go_loopw [11,12,13] (λc j _ wr=>∃(c0:Int) (jj:Nat),c=Ac Ab c0/\j=Ac Ab jj/\Md c0/\jj<=je+1/\Aa (∃bad,Gp s wr G 0 r.at_ (Z (K ⟨gb,ob,M⟩) r.ej c1) (Z (K ⟨go,oo,M⟩) r.gJ c2) (Z v3 r.gS c3) (Z F r.gI c4) vI T bad (List.range k) C)) (λ_ j _ _=>je+1-(intOf j).toNat)
 case atStart=>exact⟨0,ja,rfl,rfl,⟨oM,oM⟩,oM,_,A.o.1⟩
 have aP:=Ap A.o.2;clear A y2 i0;obtain⟨c0,jj,rfl,rfl,aW,dY,E5⟩:=hrel;obtain⟨bad,aq⟩:=E5.o;have A:=Ap aq;clear E5 aq;have y2:=Ak A.o.gG HJ.o.2;have i1:=Ak A.o.gG HJ.o.1;by_cases dZ:jj<=je;case neg=>
  have p6:=A.o.cells.1;have EA:Aa (Gp s (wr.alloc (.cells #[Ac Ab (k:Int)] 2)) G 0 r.at_ (Z (K ⟨gb,ob,M⟩) r.ej c1) (Z (K ⟨go,oo,M⟩) r.gJ c2) (Z v3 r.gS c3) (Z F r.gI c4) vI T bad (List.range k) C):=A.o.bM (Ag _ _);have OA:Aa ((wr.alloc (.cells #[Ac Ab (k:Int)] 2)).ownsRow s 2 1 vI k (nv (List.range k))):=by have:=EA.o.ig;rw[mS]at this;exact this
  have q6:=EA.o.cells.1;go_upto_region 22 with(first|(at_builtin;refine wpList_append_lies _ rfl _ _ 36 rfl s 2 cY (Ac Ab 0) 1 8 Tryz.underlying36 hi bC bF cX rfl dC vI k (nv (List.range k)) rfl OA.o wr 1 1 [Ac Ab (k:Int)] rfl rfl (JG wr _ _) (λu hu=>by simp at hu;subst hu;rfl) oM oX oM EA.o.gG.size _ rfl ?_;intro g5 ah w5 aw au aj bq;have PI:Aa _:=EA.o.jW k (Z g5 (k+1) ah) (by rw[mS];exact aw) au (Rj aj);have s6:=PI.o.2.1;have bH:=PI.o.2.2;clear aw au aj bq)|go_in)
  have D:Aa (Gp s (w5.setCell ⟨G,6,M⟩ (Z g5 (k+1) ah)) G 0 r.at_ (Z (K ⟨gb,ob,M⟩) r.ej c1) (Z (K ⟨go,oo,M⟩) r.gJ c2) (Z v3 r.gS c3) (Z F r.gI c4) (Z g5 (k+1) ah) T bad (List.range (k+1)) C):=by have:=PI.o.1;rw[<-m9]at this;exact this
  clear PI s6 bH EA OA q6 p6 A y2 i1;refine An (λU=>Aa (Gp s U G 0 r.at_ (Z (K ⟨gb,ob,M⟩) r.ej c1) (Z (K ⟨go,oo,M⟩) r.gJ c2) (Z v3 r.gS c3) (Z F r.gI c4) (Z g5 (k+1) ah) T bad (List.range (k+1)) C)) D ?_;clear D;rintro U D;have p7:=D.o.cells.2.1;have EB:Aa (Gp s (U.alloc (.cells #[Ac Ab c0] 2)) G 0 r.at_ (Z (K ⟨gb,ob,M⟩) r.ej c1) (Z (K ⟨go,oo,M⟩) r.gJ c2) (Z v3 r.gS c3) (Z F r.gI c4) (Z g5 (k+1) ah) T bad (List.range (k+1)) C):=D.o.bM (Ag _ _);have OB:Aa ((U.alloc (.cells #[Ac Ab c0] 2)).ownsRow s 2 1 T k (C.flatMap Ah)):=by have:=EB.o.cost;rw[aP.o]at this;exact this
  have q7:=EB.o.cells.2.1;go_wp2_with (first|(at_builtin;refine wpList_append_lies _ rfl _ _ 36 rfl s 2 cY (Ac Ab 0) 1 8 Tryz.underlying36 hi bC bF cX rfl dC T k (C.flatMap Ah) rfl OB.o U 1 1 [Ac Ab c0] rfl rfl (JG U _ _) (λu hu=>by simp at hu;subst hu;rfl) oM oX oM EB.o.gG.size _ rfl ?_;intro g6 df w6 aw au aj bq;have PI:Aa _:=EB.o.jl aW (Z g6 (k+1) df) (by rw[aP.o];exact aw) au (Rj aj);have s6:=PI.o.2.1;have bH:=PI.o.2.2;clear aw au aj bq)|go_in);clear s6 bH q7 p7 EB OB D;go_roundw;case rel=>exact⟨k+1,oM,by go_num,_,_,_,_,PI.o.1,by rw[kJ,aP.o];rfl⟩
  exact oI
 have e8:(jj:Int)<=(je:Int):=oM;obtain⟨x,hx⟩:∃x,f.ch[jj]?=K x:=⟨_,an oM⟩;obtain⟨gi,oi,ci,ei,x0,x1,x2,x3⟩:=KL E4.o.rc hx;simp only[jc,lO]at ei;obtain⟨rfl,rfl⟩:=ei;have dt:(jj:Int)<(f.ch:Int):=oM;rw[<-A.o.gG.cell (jC x0)]at x0;rw[<-A.o.gG.cell (jC x1)]at x1;rw[<-A.o.gG.cell (jC x2)]at x2;rw[<-A.o.gG.cell (jC x3)]at x3;have HX:=Ap hx;clear hx;go_upto_region 16 with fail
 have D:Aa (Gp s (wr.alloc (.cells #[Ac Ab x.op,Ac Ab x.a,Ac Ab x.b,Ac Ab x.c] 60)) G 0 r.at_ (Z (K ⟨gb,ob,M⟩) r.ej c1) (Z (K ⟨go,oo,M⟩) r.gJ c2) (Z v3 r.gS c3) (Z F r.gI c4) vI T bad (List.range k) C/\Ar (wr.alloc (.cells #[Ac Ab x.op,Ac Ab x.a,Ac Ab x.b,Ac Ab x.c] 60)) wr #[Ac Ab x.op,Ac Ab x.a,Ac Ab x.b,Ac Ab x.c] 60):=⟨A.o.bM (Ag _ _),Ar.new _ _ _⟩
 have db:Aa (x.op=28->∃(q:Nat) (fq:MF),x.a=q/\p.cC[q]?=K fq):= λe=>(bI.o.parts.2.2.2.1 q (iV.1 HF.o.1).1 f HF.o.1 jj (iV.1 HX.o).1 x HX.o).callee e
 clear x0 x1 x2 x3 y2 i1 A;generalize wr.heap.size=X at D⊢;refine An (λU=>Aa (Gp s U G 0 r.at_ (Z (K ⟨gb,ob,M⟩) r.ej c1) (Z (K ⟨go,oo,M⟩) r.gJ c2) (Z v3 r.gS c3) (Z F r.gI c4) vI T bad (List.range k) C/\Ar U X #[Ac Ab x.op,Ac Ab x.a,Ac Ab x.b,Ac Ab x.c] 60)) D ?_
 clear D;rintro U D;have di:X≠G:= λe=>by
  have B:=D.o.2;have e2:=D.o.1.gR;unfold Ar at B e2;rw[e,e2]at B;injection B with B
  injection B with _ B
  exact absurd B dC
 obtain⟨d0,d1,d2,d3⟩:=Bi D.o.2;go_wp2_with fail;refine(CG x.op U).mono ?_;rintro e u3 ⟨rfl,L⟩;obtain⟨si,ci,fo,bO,aF⟩:=Oz x.op;rw[bO];have dp:=OE si ci fo;have E8:Aa (Gp s u3 G 0 r.at_ (Z (K ⟨gb,ob,M⟩) r.ej c1) (Z (K ⟨go,oo,M⟩) r.gJ c2) (Z v3 r.gS c3) (Z F r.gI c4) vI T bad (List.range k) C/\Ar u3 X #[Ac Ab x.op,Ac Ab x.a,Ac Ab x.b,Ac Ab x.c] 60):=⟨D.o.1.bM L,D.o.2.bM L⟩
 clear L D d0 d1 d2 d3 bO;go_wp2_with fail;refine(F7 G c0 ci _ u3 aW aF E8.o.1.cells.2.2.1 (E8.o.1.cells.2.2.2 8)).mono ?_;rintro e u4 ⟨c7,rfl,aX,hU⟩;have Q:Aa (∃bad,Gp s u4 G 0 r.at_ (Z (K ⟨gb,ob,M⟩) r.ej c1) (Z (K ⟨go,oo,M⟩) r.gJ c2) (Z v3 r.gS c3) (Z F r.gI c4) vI T bad (List.range k) C/\Ar u4 X #[Ac Ab x.op,Ac Ab x.a,Ac Ab x.b,Ac Ab x.c] 60):=by
  rcases hU with rfl|rfl
  . exact⟨_,E8.o⟩
  exact⟨_,E8.o.1.i9,E8.o.2.other (a:=⟨G,8,M⟩) di _⟩
 clear hU E8 dp aF aW;obtain⟨dd,cu,cT⟩:=Q.o;have F0:=Ap (ji cu cT);clear cu cT Q;obtain⟨d0,d1,d2,d3⟩:=Bi F0.o.2;by_cases ae:x.op=28;case neg=>
  go_wp2_with fail;go_roundw;case rel=>exact⟨c7,jj+1,rfl,by go_num,aX,oM,dd,F0.o.1⟩
  exact oI
 obtain⟨cq,fq,bz,_⟩:=db.o ae;rw[bz]at d1;rw[ae]at d0;have d9:=Ap aX;clear aX;by_cases cg:(a8:Int)<=(cq:Int);case pos=>have dS:(cq:Int)>=(a8:Int):=cg;clear ae bz;exact Q0
 have dT:¬(cq:Int)>=(a8:Int):=cg;have dk:cq<a8.length:=oM;have dU:(cq:Int)<(a8:Int):=oM;obtain⟨z,hz⟩:∃z,a8[cq]?=K z:=⟨_,an dk⟩;obtain⟨ga,oa,ea,kz⟩:∃ga oa,ca=K ⟨ga,oa,M⟩/\u4.cell? ⟨ga,oa+cq,M⟩=K (Ac Ab z):=by
  have:=Rd.bM E4.o.cs F0.o.1.gG lR;rcases this.2 with⟨e0,_⟩|⟨g1,o1,dI,B,hc⟩
  . omega
  simp only[jc,lO]at B;exact⟨g1,o1,B.1,hc cq _ (Ik hz)⟩
 subst ea;clear hz ae bz;by_cases bC:z<0;case pos=>exact Q0
 by_cases bF:z>4294967295;case pos=>exact Q0
 go_wp2_with fail;refine(F7 G c7 z _ u4 d9.o ⟨oM,oM⟩ F0.o.1.cells.2.2.1 (F0.o.1.cells.2.2.2 8)).mono ?_;rintro e u5 ⟨c8,rfl,dj,hU⟩;have F1:Aa (∃bad,Gp s u5 G 0 r.at_ (Z (K ⟨gb,ob,M⟩) r.ej c1) (Z (K ⟨go,oo,M⟩) r.gJ c2) (Z v3 r.gS c3) (Z F r.gI c4) vI T bad (List.range k) C):=by
  rcases hU with rfl|rfl
  . exact⟨_,F0.o.1⟩
  exact⟨_,F0.o.1.i9⟩
 clear hU F0 kz d0 d1 d2 d3;go_wp2_with fail;go_roundw;case rel=>exact⟨c8,jj+1,rfl,by go_num,dj,oM,F1⟩
 exact oI
end Go.Proofs.YtjnglocdoljgkaaGreat
