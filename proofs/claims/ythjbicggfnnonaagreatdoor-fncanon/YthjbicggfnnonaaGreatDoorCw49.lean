import Derived.Test.YthjbicggfnnonaaGreatDoorCw45
import Derived.Test.YthjbicggfnnonaaGreatDoorCw36
namespace Go.Proofs.YthjbicggfnnonaaGreatDoor
open Go.ChangeShapes Go.WideShapes Go.ChangeAt Go.RowKit
set_option linter.unusedVariables false
set_option maxHeartbeats 8000000
set_option maxRecDepth 100000
variable {v:Value}{g n c:Nat}{l:List Int}{w u:World}
def To(w:World)(e:Ending)(a:World):Prop:=(∃n,e=.returned (.int .i64 n)/\Wp n)/\Below w.heap.size w a
theorem MK(k:Nat)(a:k<30):∃(s:ByteArray) (c f:Int),(Ct k).toArray=#[.string s,.int .i64 c,.int .i64 f]/\0<=c/\c<=4294967295:=by
 have h:k=0\/k=1\/k=2\/k=3\/k=4\/k=5\/k=6\/k=7\/k=8\/k=9\/k=10\/k=11\/k=12\/k=13\/k=14\/k=15\/k=16\/k=17\/k=18\/k=19\/k=20\/k=21\/k=22\/k=23\/k=24\/k=25\/k=26\/k=27\/k=28\/k=29:=oM
 clear a;rcases h with rfl|rfl|rfl|rfl|rfl|rfl|rfl|rfl|rfl|rfl|rfl|rfl|rfl|rfl|rfl|rfl|rfl|rfl|rfl|rfl|rfl|rfl|rfl|rfl|rfl|rfl|rfl|rfl|rfl|rfl<;>exact⟨_,_,_,rfl,dC,dC⟩
theorem NY(op:Int):∃(s:ByteArray) (c f:Int),Dk op=#[.string s,.int .i64 c,.int .i64 f]/\Ll c:=by
 by_cases h:0<=op/\op<=29
 . unfold Dk;rw[lI h];exact MK _ oM
 unfold Dk;rw[lE h];exact⟨_,_,_,rfl,dC,dC⟩
theorem N6(s:ByteArray)(c f:Int)(w:World):(Instr.field 133 (.agg #[.string s,.int .i64 c,.int .i64 f]) 1).run Tryz.prog w=.ok (.int .i64 c) w:=kR
theorem P9{H:Nat}(h:v.ownBlock=some g\/g=H):(Value.slice (some ⟨g,0,none⟩) n c).ownBlock=v.ownBlock\/(Value.slice (some ⟨g,0,none⟩) n c).ownBlock=some H:=by
 rcases h with e|e
 . exact .inl e.symm
 exact .inr (by rw[e];rfl)
theorem Sx(h:∀z∈l,∃b:Nat,z=(b:Int)/\b<n):Fa (l.map Int.toNat)=l:=by
 induction l with
 |nil=>rfl
 | cons x r c=>obtain⟨b,e,_⟩:=h x sP;(have:=c fun z a=>h z (by simp[a]));unfold Fa at this⊢;rw[mL,mL,this,e];rfl
theorem UT(h:Rd w 1 v l.length (l.flatMap Ad))(a:∀z∈l,∃b:Nat,z=(b:Int)/\b<n):LW w v (l.map Int.toNat):=by unfold LW;rw[kZ,Jm,Sx a];exact h
theorem UZ(h:∀z∈l,∃b:Nat,z=(b:Int)/\b<n):∀y∈l.map Int.toNat,y<n:=fun y a=>by obtain⟨z,c,e⟩:=lL.1 a;obtain⟨b,d,f⟩:=h z c;omega
theorem UR{c:World}{B k:Nat}{e:TypeId}{s:Value}{xs:List Value}(h:u.ownsRow B e k s n xs)(i:∀b,s.ownBlock=some b->c.heap[b]?=u.heap[b]?):c.ownsRow B e k s n xs:=by
 refine⟨h.1,?_⟩;rcases h.2 with h|⟨g,cap,d,a,f,j,l⟩
 . exact .inl h
 exact .inr ⟨g,cap,d,a,f,by rw[i g (by rw[a];rfl)];exact j,l⟩
theorem Ik.fr{k:World}{V:Value}{m G:Nat}{t v:List (ML×Value×Value)}{x:GV}{bad:Bool}{I:List Nat}{C:List Int}(h:Ik w u V n t v)(j:Gr w u G m x bad I C)(z:Below w.heap.size w k)(A:∀b,b<u.heap.size->b≠G->b≠x.gi->b≠x.gc->k.heap[b]?=u.heap[b]?):Ik w k V n t v:=by
 refine⟨UR h.own fun b a=> ?_,h.len,h.sub,z⟩;have B:=(h.own.lt b a).2;have r:∀(l p n' c' i:Nat) (s:List Value),u.ownsRow l 2 p (.slice (some ⟨i,0,none⟩) n' c') n' s->b≠i:=fun l p n' c' i s D e=>by
  subst e;obtain⟨_,E,f⟩:=AQ D;rcases h.own.2 with⟨c,_⟩|⟨g,cap,y,c,_,d,_⟩
  . rw[c]at a;cases a
  rw[c]at a;simp only[Value.ownBlock,i4]at a;subst a;rw[f]at d;injection d with q
  injection q with _ q
  exact absurd q dC
 refine A b B (fun e=> ?_) (r _ _ _ _ _ _ j.gQ) (r _ _ _ _ _ _ j.cost);subst e;have f:=j.cC;unfold Aw at f;rcases h.own.2 with⟨c,_⟩|⟨g,cap,y,c,_,d,_⟩
 . rw[c]at a;cases a
 rw[c]at a;simp only[Value.ownBlock,i4]at a;subst a;rw[f]at d;injection d with q
 injection q with _ q
 exact absurd q dC
theorem Ik.same{b:World}{d e:List (ML×Value×Value)}(h:Ik w u (.slice (some ⟨g,0,none⟩) n c) n d e)(f:Ik w b (.slice (some ⟨g,0,none⟩) n c) n d e)(j:Nat)(a:j<n*3):b.cell? ⟨g,j,none⟩=u.cell? ⟨g,j,none⟩:=by rw[kW h.own j a,kW f.own j a]
structure FcR(w w1:World)(v:VP)(p:MP)(f:MF)(gc:Value)(FB:Nat)(r:JO)(z1 z2 z3 z4:Value)(cv:Value)(costs:List Int):Prop where
 pb:Aw w1 w.heap.size #[v.r,v.k,v.f,v.t] 29
 fb:Aw w1 FB #[.int .i64 r.code,.int .i64 r.at_,z1,z2,z3,z4] 210
 rf:Gx w1 z1 z2 z3 z4 r
 rp:Ft w1 v p
 rc:Rd w1 4 gc f.code.length (f.code.flatMap MI.cells)
 cs:Rd w1 1 cv costs.length (costs.flatMap Ad)
 aC:Below w.heap.size w w1
theorem JL(v:VP)(p:MP)(fi:Int)(cv:Value)(R:List Int)(w:World)(hs:p.small)(hw:p.wf)(cE:Cr fi)(h:Ft w v p)(hc:Rd w 1 cv R.length (R.flatMap Ad))(dS:R.length<=1048576):
 Calls Tryz.prog 131 #[.agg #[v.r,v.k,v.f,v.t],.int .i64 fi,cv] w (To w):=by
 obtain⟨r1,r3,k1,k3,t1,t3,f1,f3,rfl⟩:=h.sl;obtain⟨ca,cc,ec⟩:=Rd.bW hc;subst ec;obtain⟨cZ,hi,bJ,bK,cY⟩:=kS Co;obtain⟨j0,hj,dA,dD,dE⟩:=kS D8;have H:Hid (p.small/\p.wf/\Cr fi/\Ft w ⟨.slice r1 p.aB.length r3,.slice k1 p.ag.length k3,.slice f1 p.funcs.length f3,.slice t1 p.a7.length t3⟩ p/\Rd w 1 (.slice ca R.length cc) R.length (R.flatMap Ad)):=⟨hs,hw,cE,h,hc⟩
 clear hs hw cE h hc;have E0:Hid (Aw (w.alloc (.cells #[.slice r1 p.aB.length r3,.slice k1 p.ag.length k3,.slice f1 p.funcs.length f3,.slice t1 p.a7.length t3] 29)) w.heap.size #[.slice r1 p.aB.length r3,.slice k1 p.ag.length k3,.slice f1 p.funcs.length f3,.slice t1 p.a7.length t3] 29/\Below w.heap.size w (w.alloc (.cells #[.slice r1 p.aB.length r3,.slice k1 p.ag.length k3,.slice f1 p.funcs.length f3,.slice t1 p.a7.length t3] 29))):=⟨Aw.new _ _ _,Aa _ _⟩
 go_enter Tryz.func131,Tryz.ntmps131;go_upto_region 1 with fail
 refine Ao (fun u=>Hid (Aw u w.heap.size #[.slice r1 p.aB.length r3,.slice k1 p.ag.length k3,.slice f1 p.funcs.length f3,.slice t1 p.a7.length t3] 29/\Below w.heap.size w u)) E0 ?_
 rintro U0 Q;clear E0;obtain⟨p0,p1,p2,p3⟩:=Ce Q.o.1;go_wp2_with fail;refine(CO ⟨.slice r1 p.aB.length r3,.slice k1 p.ag.length k3,.slice f1 p.funcs.length f3,.slice t1 p.a7.length t3⟩ p U0 H.o.1 H.o.2.1 (H.o.2.2.2.1.aa Q.o.2 lR)).mono ?_;rintro e u1 ⟨⟨n,rfl,hn⟩,J⟩;have E2:=Ag (f7 (Q.o.1.aa J) (Ac Q.o.2 lR J));clear J Q p0 p1 p2 p3;clear U0;have p2:=E2.o.1.cell 2;simp only[jZ,i5,i8]at p2;by_cases aI:n=0;case neg=>clear hn;go_wp2_with fail;go_ret;exact⟨⟨-1,rfl,dC,dC⟩,E2.o.2⟩
 subst aI;have bP:=Ag hn;clear hn;by_cases dt:fi<0;case pos=>
  have dY:decide (fi<0)=true:=by simpa using dt
  go_wp2_with fail;go_ret;exact⟨⟨-1,rfl,dC,dC⟩,E2.o.2⟩
 by_cases dZ:(p.funcs.length:Int)<=fi;case pos=>go_wp2_with fail;go_ret;exact⟨⟨-1,rfl,dC,dC⟩,E2.o.2⟩
 obtain⟨q,rfl⟩:=i7 (show 0<=fi from oM);obtain⟨f,hf⟩:∃f,p.funcs[q]?=some f:=⟨_,an oM⟩;obtain⟨gk,ok,ck,bS,g,bB,m0,m1,m2,m3⟩:=Ma H.o.2.2.2.1.funcs hf;simp only[ip,kU]at bS;obtain⟨rfl,rfl⟩:=bS;obtain⟨g1,g3,g4,g6,g7,g9,rfl⟩:=Hs bB;have eO:(q:Int)<(p.funcs.length:Int):=oM;have HF:Hid (p.funcs[q]?=some f/\f.small/\IG w ⟨.slice g1 f.params.length g3,.slice g4 f.locals.length g6,.slice g7 f.code.length g9⟩ f/\0<f.code.length):=⟨hf,H.o.1.func f (d9 hf),bB,Nat.pos_of_ne_zero (bP.o.parts.2.2.1.2.2.1 q (d7.1 hf).1 f hf).ix⟩
 simp only[]at m0 m1 m2 m3;rw[<-E2.o.2.cell (d5 m3)]at m3;clear bB hf m0 m1 m2;go_wp2_with fail;refine(Fi (.slice g7 f.code.length g9) f.code u1 HF.o.2.1.2.2 (Rd.aa HF.o.2.2.1.2.2 E2.o.2 lR)).mono ?_;rintro e u2 ⟨r,vb,vo,vi,vl,rfl,aY,bz,J⟩;obtain⟨v1,c1,v2,c2,v3,c3,F,c4,rfl,rfl,rfl,rfl⟩:=Ld bz;have E3:Hid (FcR w (u2.alloc (.cells #[.int .i64 r.code,.int .i64 r.at_,.slice v1 r.blocks.length c1,.slice v2 r.order.length c2,.slice v3 r.ej.length c3,.slice F r.loops.length c4] 210)) ⟨.slice r1 p.aB.length r3,.slice k1 p.ag.length k3,.slice (some ⟨gk,ok,none⟩) p.funcs.length f3,.slice t1 p.a7.length t3⟩ p f (.slice g7 f.code.length g9) u2.heap.size r (.slice v1 r.blocks.length c1) (.slice v2 r.order.length c2) (.slice v3 r.ej.length c3) (.slice F r.loops.length c4) (.slice ca R.length cc) R):=by have b2:=Aa u2 (.cells #[.int .i64 r.code,.int .i64 r.at_,.slice v1 r.blocks.length c1,.slice v2 r.order.length c2,.slice v3 r.ej.length c3,.slice F r.loops.length c4] 210);have b3:Below w.heap.size w (u2.alloc (.cells #[.int .i64 r.code,.int .i64 r.at_,.slice v1 r.blocks.length c1,.slice v2 r.order.length c2,.slice v3 r.ej.length c3,.slice F r.loops.length c4] 210)):=Ac (Ac E2.o.2 lR J) lR b2;exact⟨(E2.o.1.aa J).aa b2,Aw.new _ _ _,bz.hT b2 lR,H.o.2.2.2.1.aa b3 lR,Rd.aa HF.o.2.2.1.2.2 b3 lR,Rd.aa H.o.2.2.2.2 b3 lR,b3⟩
 have aN:=Ag aY;have eL:r.loops.length<=1024:=(GG aY).1;clear aY bz J E2 p2 m3;clear u1;go_upto_region 5 with fail
 generalize u2.heap.size=FB at E3⊢;refine Ao (fun u=>Hid (FcR w u ⟨.slice r1 p.aB.length r3,.slice k1 p.ag.length k3,.slice (some ⟨gk,ok,none⟩) p.funcs.length f3,.slice t1 p.a7.length t3⟩ p f (.slice g7 f.code.length g9) FB r (.slice v1 r.blocks.length c1) (.slice v2 r.order.length c2) (.slice v3 r.ej.length c3) (.slice F r.loops.length c4) (.slice ca R.length cc) R)) E3 ?_;rintro d s;clear E3;clear u2;obtain⟨y0,y1,y2,y3,y4,y5⟩:=FV s.o.fb;by_cases am:r.code=0;case neg=>go_wp2_with fail;go_ret;exact⟨⟨-1,rfl,dC,dC⟩,s.o.aC⟩
 obtain⟨gb,ob,dM,T,Y,dO,E,O,bV,bX,aJ,ch⟩:=TJ aN.o am s.o.rf;simp only[ip,kU]at bV bX;obtain⟨rfl,rfl⟩:=bV;obtain⟨rfl,cR,rfl⟩:=bX;have aA:=Ag (f7 cR (f7 aJ ch));clear cR aJ ch;rw[am]at y0;go_wp2_with fail;have HI:=Ag (aN.o.gR am);have dI:=Ag am;clear am;have eJ:=HI.o.nb;have dT:=HI.o.len;have G0:Hid (∃vI N bad C,Gp d (d.alloc (.cells #[.int .i64 0,.int .i64 r.at_,.slice (some ⟨gb,ob,none⟩) r.blocks.length c1,.slice (some ⟨T,Y,none⟩) r.order.length c2,.slice v3 r.ej.length c3,.slice F r.loops.length c4,.slice none 0 0,.slice none 0 0,.bool false] 240)) d.heap.size 0 r.at_ (.slice (some ⟨gb,ob,none⟩) r.blocks.length c1) (.slice (some ⟨T,Y,none⟩) r.order.length c2) (.slice v3 r.ej.length c3) (.slice F r.loops.length c4) vI N bad (List.range 0) C/\C.length=0):=⟨.slice none 0 0,.slice none 0 0,false,[],⟨Aw.new _ _ _,Nat.le_refl _,lJ _ _ _ _,lJ _ _ _ _,fun b hb=>(by cases hb),Aa _ _,fun y hy=>(by cases hy)⟩,rfl⟩
 clear y0 y1 y2 y3 y4 y5;generalize hG:d.heap.size=G at G0⊢;have HG:=Ag hG;clear hG;go_loopw [10,11,12,13] (fun i _ _ _ wr=>∃k:Nat,k<=r.blocks.length/\i=.int .i64 k/\Hid (∃vI N bad C,Gp d wr G 0 r.at_ (.slice (some ⟨gb,ob,none⟩) r.blocks.length c1) (.slice (some ⟨T,Y,none⟩) r.order.length c2) (.slice v3 r.ej.length c3) (.slice F r.loops.length c4) vI N bad (List.range k) C/\C.length=k)) (fun i _ _ _ _=>r.blocks.length-(intOf i).toNat)
 case atStart=>exact⟨0,oM,rfl,G0⟩
 clear G0;obtain⟨k,hk,rfl,E5⟩:=hrel;obtain⟨vI,N,bad,C,aq,cg⟩:=E5.o;have A:Hid (Gp d wr G 0 r.at_ (.slice (some ⟨gb,ob,none⟩) r.blocks.length c1) (.slice (some ⟨T,Y,none⟩) r.order.length c2) (.slice v3 r.ej.length c3) (.slice F r.loops.length c4) vI N bad (List.range k) C/\C.length=k):=⟨aq,cg⟩
 clear E5 aq cg;have y2:wr.cell? ⟨FB,2,none⟩=some (.slice (some ⟨gb,ob,none⟩) r.blocks.length c1):=Af A.o.1.aC (FV s.o.fb).2.2.1;by_cases bu:k<r.blocks.length;case neg=>
  have y5:wr.cell? ⟨FB,5,none⟩=some (.slice F r.loops.length c4):=Af A.o.1.aC (FV s.o.fb).2.2.2.2.2;obtain rfl:k=r.blocks.length:=oM;have bp:=A.o.1;rw[aA.o.1]at bp;obtain⟨gi,ci,gc,bR,cH⟩:=bp.gr A.o.2 aA.o.2.1;have aP:Hid (GF d r.blocks.length ⟨0,r.at_,gb,ob,c1,T,Y,c2,.slice v3 r.ej.length c3,.slice F r.loops.length c4,gi,ci,gc,bR⟩ E O):=aA.o.2.2 _ rfl rfl rfl rfl;have D:=Ag cH;clear cH bp A;generalize (⟨0,r.at_,gb,ob,c1,T,Y,c2,.slice v3 r.ej.length c3,.slice F r.loops.length c4,gi,ci,gc,bR⟩:GV)=xv at D aP;obtain⟨ys,bI,cW,aL⟩:=s.o.rf.loops;have HY:=Ag (f7 bI (f7 aL (f7 ((fun y hy=>⟨(aL y hy).1.bW,(aL y hy).2.bW⟩):(∀y∈ys,ON y)) ((by rw[<-bI,kZ]):ys.length=r.loops.length))));have cX:=Ag (Rd.aa cW D.o.aC lR);clear bI cW aL;go_wp2_with fail;refine(Oh (.slice F r.loops.length c4) r.loops.length ys wr HY.o.2.2.2 oM cX.o HY.o.2.2.1).mono ?_;rintro e u5 ⟨V,zs,rfl,hI⟩;obtain⟨az,cz,eV⟩:∃a c,V=.slice a r.loops.length c:=by obtain⟨a,c,e⟩:=Rd.bW (Rd.cB hI.own);exact⟨a,c,e⟩
  subst eV;have F0:Hid (∃bd I Z,Gr d u5 G r.blocks.length xv bd I Z/\Ik d u5 (.slice az r.loops.length cz) r.loops.length ys zs):=⟨_,_,_,D.o.aa hI.aC,BD hI.own D.o.aC.size,hI.len,hI.sub,Ac D.o.aC lR hI.aC⟩
  clear hI cX D y5;go_wp2_with fail;go_loopw [15] (fun i wr=>∃k:Nat,k<=r.loops.length/\i=.int .i64 k/\Hid (∃bd I Z,Gr d wr G r.blocks.length xv bd I Z/\Ik d wr (.slice az r.loops.length cz) r.loops.length ys zs)) (fun i _=>r.loops.length-(intOf i).toNat)
  case atStart=>exact⟨0,oM,rfl,F0⟩
  clear F0;obtain⟨k,hk,rfl,E5⟩:=hrel;obtain⟨bd,I,Z,cG,cM⟩:=E5.o;have A:Hid (Gr d wr G r.blocks.length xv bd I Z/\Ik d wr (.slice az r.loops.length cz) r.loops.length ys zs):=⟨cG,cM⟩
  clear cG cM E5;by_cases bu:k<r.loops.length;case pos=>
   have cL:(k:Int)<(r.loops.length:Int):=oM;obtain⟨M,dk⟩:∃M,az=some ⟨M,0,none⟩:=by
    rcases B9 A.o.2.own with⟨e,h0⟩|⟨M,c,e⟩
    . omega
    simp only[ip]at e;exact⟨M,e.1⟩
   subst dk;obtain⟨z,a1,b1,d1,B,hz,bL,bY,bZ,q0,q1,q2⟩:=A.o.2.at_ HY.o.2.2.1 bu;(have aD:Hid (z.1∈r.loops):=by show z.1∈r.loops;rw[<-HY.o.1];exact lL.2 ⟨z,bL,rfl⟩);obtain⟨⟨hd,aE,dw⟩,aS,cu,cA⟩:=HI.o.loop _ aD.o;obtain⟨l,eT,eU⟩:=z;simp only[]at bY bZ q0 q1 q2 aE aS cu cA aD;subst bY bZ;rw[aE]at q0;have HZ:Hid (l∈r.loops/\Kw d ⟨.slice a1 l.back.length b1,.slice d1 l.blocks.length B⟩ l/\l.head=(hd:Int)/\hd<r.blocks.length/\(∀z∈l.blocks,∃b:Nat,z=(b:Int)/\b<r.blocks.length)/\l.small):=⟨aD.o,HY.o.2.1 _ bL,aE,dw,aS,by unfold ML.small;omega⟩
   clear hz bL aE aS cu cA aD;have HC:Hid (∀W:World,Below d.heap.size d W->W.cell? ⟨w.heap.size,0,none⟩=some (.slice r1 p.aB.length r3)/\W.cell? ⟨w.heap.size,1,none⟩=some (.slice k1 p.ag.length k3)/\W.cell? ⟨w.heap.size,2,none⟩=some (.slice (some ⟨gk,ok,none⟩) p.funcs.length f3)/\W.cell? ⟨w.heap.size,3,none⟩=some (.slice t1 p.a7.length t3)):=fun W hW=>⟨Af hW (Ce s.o.pb).1,Af hW (Ce s.o.pb).2.1,Af hW (Ce s.o.pb).2.2.1,Af hW (Ce s.o.pb).2.2.2⟩
   have HL:Hid (∀(W:World),Below wr.heap.size wr W->W.cell? ⟨M,k*3,none⟩=some (.int .i64 (hd:Int))/\W.cell? ⟨M,k*3+1,none⟩=some (.slice a1 l.back.length b1)/\W.cell? ⟨M,k*3+2,none⟩=some (.slice d1 l.blocks.length B)):=fun W hW=>⟨Af hW q0,Af hW q1,Af hW q2⟩
   clear q0 q1 q2;(go_upto_region 27 with fail);have K:Hid (Gr d wr.drew G r.blocks.length xv bd I Z/\Ik d wr.drew (.slice (some ⟨M,0,none⟩) r.loops.length cz) r.loops.length ys zs/\Below wr.heap.size wr wr.drew):=⟨A.o.1.aa (Ae _),A.o.2.aa (Ae _),Ae _⟩
   refine wp_region_held_drew (S:=fun W=>W.cell? ⟨w.heap.size,0,none⟩=some (.slice r1 p.aB.length r3)/\W.cell? ⟨w.heap.size,1,none⟩=some (.slice k1 p.ag.length k3)/\W.cell? ⟨w.heap.size,2,none⟩=some (.slice (some ⟨gk,ok,none⟩) p.funcs.length f3)/\W.cell? ⟨w.heap.size,3,none⟩=some (.slice t1 p.a7.length t3)/\W.cell? ⟨M,k*3,none⟩=some (.int .i64 (hd:Int))/\W.cell? ⟨M,k*3+1,none⟩=some (.slice a1 l.back.length b1)/\W.cell? ⟨M,k*3+2,none⟩=some (.slice d1 l.blocks.length B)) kR (by obtain⟨h1,h2,h3,h4⟩:=HC.o _ K.o.1.aC;obtain⟨h5,h6,h7⟩:=HL.o _ K.o.2.2;exact⟨h1,h2,h3,h4,h5,h6,h7⟩) (fun a8=> ?_)
   clear A;generalize wr.drew=UD at K a8⊢;refine An 0 ?_;refine An 1 ?_;refine An 2 ?_;refine An 3 ?_;refine An 4 ?_;refine An 5 ?_;refine rdH 6 ?_;intro KC a6;go_simp;have aX:=Jq ⟨.slice r1 p.aB.length r3,.slice k1 p.ag.length k3,.slice (some ⟨gk,ok,none⟩) p.funcs.length f3,.slice t1 p.a7.length t3⟩ p (q:Int) ⟨.slice a1 l.back.length b1,.slice d1 l.blocks.length B⟩ l UD H.o.1 H.o.2.1 H.o.2.2.1 (s.o.rp.aa K.o.1.aC lR) HZ.o.2.2.2.2.2 (HZ.o.2.1.aa K.o.1.aC lR);rw[HZ.o.2.2.1]at aX;refine aX.mono ?_;clear aX;rintro e u6 ⟨⟨nf,rfl,cQ⟩,J⟩;have E8:=Ag (f7 (K.o.1.aa J) (f7 (K.o.2.1.aa J) (Ac K.o.2.2 lR J)));have bQ:=Ag cQ;clear cQ J K;refine a6.o _ _ (by obtain⟨h1,h2,h3,h4⟩:=HC.o _ E8.o.1.aC;obtain⟨h5,h6,h7⟩:=HL.o _ E8.o.2.2;exact⟨h1,h2,h3,h4,h5,h6,h7⟩) (fun a8=> ?_);clear a6 KC;refine An 7 ?_;refine wpAnyH_done kR ?_ _;clear a8;by_cases aI:nf=0;(case neg=>(have eH:(nf != 0)=true:=by simpa using aI);go_wp2_with fail;go_ret;exact⟨⟨-1,rfl,dC,dC⟩,s.o.aC.trans (E8.o.1.aC.mono s.o.aC.size)⟩);subst aI;obtain⟨hb,c,bt,aW⟩:∃hb c,r.blocks[hd]?=some hb/\D4 p.a7 (q:Int) hb.cK=some c:=by
    rcases bQ.o with⟨_,e⟩|⟨f',r',ho,hb,h1,h2⟩
    . cases e
    (have B:f'=f:=by have:=ho.2.2.1;rw[kJ,HF.o.1]at this;exact(kH this).symm);subst B;have e2:r'=r:=Cs.one ho.2.2.2.1 aN.o;subst e2;rw[HZ.o.2.2.1,kJ]at h1;rcases h2 with⟨_,e⟩|⟨c,g,h2,_⟩
    . cases e
    exact⟨hb,c,h1,h2⟩
   obtain⟨ce,d6,dJ,dQ,eb,j0,_,_,_⟩:=Hd s.o.rf.blocks bt;obtain⟨ja,je,e2,e3,aQ,aG⟩:=HI.o.cC hd hb bt;rw[e2]at j0 aW;simp only[i4,lF,lp]at eb;obtain⟨rfl,rfl⟩:=eb;have HJ:Hid (d.cell? ⟨gb,ob+hd*3,none⟩=some (.int .i64 (ja:Int))/\d.cell? ⟨FB,2,none⟩=some (.slice (some ⟨gb,ob,none⟩) r.blocks.length c1)/\D4 p.a7 (q:Int) (ja:Int)=some c):=⟨j0,(FV s.o.fb).2.2.1,aW⟩
   have eh:(hd:Int)<(r.blocks.length:Int):=oM;clear j0 bt e2 e3 aW aQ aG bQ;(go_upto_region 29 with fail);have K:=Ag (f7 (E8.o.1.aa (Ae _)) (f7 (E8.o.2.1.aa (Ae _)) (Ac E8.o.2.2 lR (Ae _))));refine wp_region_held_drew (S:=fun W=>W.cell? ⟨w.heap.size,0,none⟩=some (.slice r1 p.aB.length r3)/\W.cell? ⟨w.heap.size,1,none⟩=some (.slice k1 p.ag.length k3)/\W.cell? ⟨w.heap.size,2,none⟩=some (.slice (some ⟨gk,ok,none⟩) p.funcs.length f3)/\W.cell? ⟨w.heap.size,3,none⟩=some (.slice t1 p.a7.length t3)/\W.cell? ⟨M,k*3,none⟩=some (.int .i64 (hd:Int))/\W.cell? ⟨M,k*3+1,none⟩=some (.slice a1 l.back.length b1)/\W.cell? ⟨M,k*3+2,none⟩=some (.slice d1 l.blocks.length B)/\W.cell? ⟨FB,2,none⟩=some (.slice (some ⟨gb,ob,none⟩) r.blocks.length c1)/\W.cell? ⟨gb,ob+hd*3,none⟩=some (.int .i64 (ja:Int))) kR (by obtain⟨h1,h2,h3,h4⟩:=HC.o _ K.o.1.aC;obtain⟨h5,h6,h7⟩:=HL.o _ K.o.2.2;exact⟨h1,h2,h3,h4,h5,h6,h7,Af K.o.1.aC HJ.o.2.1,Af K.o.1.aC HJ.o.1⟩) (fun a8=> ?_)
   clear E8;generalize u6.drew=UD at K a8⊢;refine An 0 ?_;refine An 1 ?_;refine An 2 ?_;refine An 3 ?_;refine An 4 ?_;refine An 5 ?_;refine An 6 ?_;refine An 7 ?_;refine An 8 ?_;refine An 9 ?_;refine An 10 ?_;refine An 11 ?_;refine An 12 ?_;refine An 13 ?_;refine An 14 ?_;refine An 15 ?_;refine An 16 ?_;refine An 17 ?_;refine An 18 ?_;refine rdH 19 ?_;intro KC a6;go_simp;refine(KT ⟨.slice r1 p.aB.length r3,.slice k1 p.ag.length k3,.slice (some ⟨gk,ok,none⟩) p.funcs.length f3,.slice t1 p.a7.length t3⟩ p (q:Int) (ja:Int) UD H.o.1 (s.o.rp.aa K.o.1.aC lR)).mono ?_;rintro e u7 ⟨⟨nc,rfl,cP⟩,J⟩;have L:Hid (Gr d u7 G r.blocks.length xv bd I Z/\Ik d u7 (.slice (some ⟨M,0,none⟩) r.loops.length cz) r.loops.length ys zs/\Below wr.heap.size wr u7):=⟨K.o.1.aa J,K.o.2.1.aa J,Ac K.o.2.2 lR J⟩
   obtain⟨kt,ct,dm,aH⟩:∃(kt:Nat) (ct:MT),nc=(kt:Int)/\p.a7[kt]?=some ct:=by
    rcases cP with⟨_,e⟩|⟨kt,ct,e,h1,_⟩
    . rw[HJ.o.2.2]at e;cases e
    exact⟨kt,ct,e,h1⟩
   subst dm;have eF:=(d7.1 aH).1;have eE:(kt:Int)<(p.a7.length:Int):=oM;obtain⟨gt,ot,et,cT⟩:∃gt ot,t1=some ⟨gt,ot,none⟩/\d.cell? ⟨gt,ot+kt*4+3,none⟩=some (.int .u32 ct.init):=by
    rcases s.o.rp.a7.2 with⟨e0,_⟩|⟨gt,ot,c',B,hc⟩
    . omega
    simp only[ip,kU]at B;exact⟨gt,ot,B.1,Rd.elem MT.aK hc kt ct aH 3 _ rfl⟩
   subst et;have aF:0<=ct.init/\ct.init<=4294967295:=by have:=(H.o.2.1.a7 ct (d9 aH)).2.2.2;simpa[Nc,Lit.wf,IntKind.min,IntKind.max,IntKind.signed,IntKind.bits]using this
   have dz:=Af L.o.1.aC cT;have eQ:IntKind.i64.wrap ct.init=ct.init:=lU _ ⟨oM,oM⟩;clear cP aH J K cT;refine a6.o _ _ (by obtain⟨h1,h2,h3,h4⟩:=HC.o _ L.o.1.aC;obtain⟨h5,h6,h7⟩:=HL.o _ L.o.2.2;exact⟨h1,h2,h3,h4,h5,h6,h7,Af L.o.1.aC HJ.o.2.1,Af L.o.1.aC HJ.o.1⟩) (fun a8=> ?_);clear a6 KC;refine An 20 ?_;refine An 21 ?_;refine rdH 22 ?_;intro KC a6;go_simp;refine a6.o _ _ (by obtain⟨h1,h2,h3,h4⟩:=HC.o _ L.o.1.aC;obtain⟨h5,h6,h7⟩:=HL.o _ L.o.2.2;exact⟨h1,h2,h3,h4,h5,h6,h7,Af L.o.1.aC HJ.o.2.1,Af L.o.1.aC HJ.o.1⟩) (fun a8=> ?_);clear a6 KC;refine An 23 ?_;refine rdH 24 ?_;intro KC a6;go_simp;refine(KW d u7 G r.blocks.length xv bd I Z E O hd (.slice a1 l.back.length b1) (.slice d1 l.blocks.length B) l.back (l.blocks.map Int.toNat) ct.init oM HZ.o.2.2.2.1 aF L.o.1 aP.o HZ.o.2.1.1 HZ.o.2.2.2.2.2.1 (UT HZ.o.2.1.2 HZ.o.2.2.2.2.1) (by rw[kZ];exact HZ.o.2.2.2.2.2.2) (UZ HZ.o.2.2.2.2.1)).mono ?_;rintro e u8 ⟨rfl,dK,I2,C2,ao,aZ⟩;have de:Hid (∃bd I Z,Gr d u8 G r.blocks.length xv bd I Z/\Ik d u8 (.slice (some ⟨M,0,none⟩) r.loops.length cz) r.loops.length ys zs):=⟨_,_,_,ao,L.o.2.1.fr L.o.1 ao.aC aZ⟩
   have aR:=Ag ao.aC;(have bF:Hid (∀j,j<r.loops.length*3->u8.cell? ⟨M,j,none⟩=u7.cell? ⟨M,j,none⟩):=fun j hj=>Ik.same L.o.2.1 (L.o.2.1.fr L.o.1 ao.aC aZ) j hj);clear ao aZ dz;refine a6.o _ _ (by obtain⟨h1,h2,h3,h4⟩:=HC.o _ aR.o;obtain⟨h5,h6,h7⟩:=HL.o _ L.o.2.2;exact⟨h1,h2,h3,h4,(bF.o _ oM).trans h5,(bF.o _ oM).trans h6,(bF.o _ oM).trans h7,Af aR.o HJ.o.2.1,Af aR.o HJ.o.1⟩) (fun a8=> ?_);clear a6 KC;refine wpAnyH_done kR ?_ _;clear a8;go_wp2_with fail;go_roundw;(case rel=>exact⟨k+1,oM,by go_num,de⟩);exact oI
  case neg=>
   have dd:wr.cell? ⟨FB,2,none⟩=some (.slice (some ⟨gb,ob,none⟩) r.blocks.length c1):=Af A.o.1.aC (FV s.o.fb).2.2.1;have cS:=A.o.1.aC.size;go_wp2_with (at_make;refine lQ _ rfl _ _ 206 rfl d.heap.size 4 j0 (.bool false) 1 Tryz.underlying206 hj dA dD .i64 .i64 _ _ r.blocks.length rfl rfl rfl rfl (by rw[dE];omega) oX cS ?_;intro w3 bx cI;rw[S7]at bx);have cj:Below wr.heap.size wr w3:=(kV _ _).grown cI lR (fun k hk=>by cases hk);have F1:Hid (Gr d w3 G r.blocks.length xv bd I Z/\∃P,w3.ownsRow d.heap.size 4 1 (.slice (some ⟨wr.heap.size,0,none⟩) r.blocks.length r.blocks.length) r.blocks.length (bv P r.blocks.length)):=⟨A.o.1.aa cj,_,bx⟩
   clear bx cI cj cS A dd;generalize wr.heap.size=gn at F1⊢;go_loopw [17] (fun i wr=>∃k:Nat,k<=r.blocks.length/\i=.int .i64 k/\Hid (Gr d wr G r.blocks.length xv bd I Z/\∃P,wr.ownsRow d.heap.size 4 1 (.slice (some ⟨gn,0,none⟩) r.blocks.length r.blocks.length) r.blocks.length (bv P r.blocks.length))) (fun i _=>r.blocks.length-(intOf i).toNat)
   (case atStart=>exact⟨0,oM,rfl,F1⟩);clear F1;obtain⟨k,eA,rfl,Q⟩:=hrel;by_cases dy:k<r.blocks.length;case pos=>
    have cL:(k:Int)<(r.blocks.length:Int):=oM;obtain⟨P,hP⟩:=Q.o.2;have c0:=kW hP k oM;rw[KD _ _ _ dy]at c0;have z0:=hP.frozenAt k;have E2:Hid (Gr d (wr.setCell ⟨gn,k,none⟩ (.bool true)) G r.blocks.length xv bd I Z/\∃P,(wr.setCell ⟨gn,k,none⟩ (.bool true)).ownsRow d.heap.size 4 1 (.slice (some ⟨gn,0,none⟩) r.blocks.length r.blocks.length) r.blocks.length (bv P r.blocks.length)):=by
     obtain⟨_,dP,B⟩:=AQ hP;obtain⟨_,c2,e2⟩:=AQ Q.o.1.gQ;obtain⟨_,c3,e3⟩:=AQ Q.o.1.cost;have e4:=Q.o.1.cC;unfold Aw at e4;refine⟨Q.o.1.other (AQ hP).1 (fun q=> ?_) (fun q=> ?_) (fun q=> ?_),_,Ov hP⟩
     . rw[q,e4]at B;cases B
     . rw[q,e2]at B;cases B
     rw[q,e3]at B;cases B
    clear hP;go_wp2_with fail;go_roundw;(case rel=>exact⟨k+1,oM,by go_num,E2⟩);exact oI
   case neg=>
    obtain⟨P,hP⟩:=Q.o.2;obtain⟨_,_,p6,_,_,_⟩:=Q.o.1.cells;have aJ:=aA.o.2.1;obtain⟨y0,dB,dF,i0⟩:=Q.o.1.im aJ;have eN:(0:Int)<(r.blocks.length:Int):=oM;clear dB;go_wp2_with fail;refine(KX d wr G r.blocks.length xv bd I Z E O gn r.blocks.length y0 P oM dF Q.o.1 aP.o hP).mono ?_;rintro e u9 ⟨gB,di,L9,rfl,hW⟩;have F2:=Ag hW;clear hW hP Q p6 i0;go_wp2_with fail;go_loopw [19,20] (fun m b dH=>∃(q:Nat) (m0:Int),q<=r.blocks.length/\m=.int .i64 m0/\b=.int .i64 q/\dH=u9/\Hid (Ll m0)) (fun _ b _=>r.blocks.length-(intOf b).toNat)
    (case atStart=>exact⟨0,0,oM,rfl,rfl,rfl,by show Ll 0;exact⟨oM,oM⟩⟩);obtain⟨qb,m0,eP,rfl,rfl,rfl,HM⟩:=hrel;obtain⟨_,_,p6,_,p8,_⟩:=F2.o.gr.cells;have dd:wr.cell? ⟨FB,2,none⟩=some (.slice (some ⟨gb,ob,none⟩) r.blocks.length c1):=Af F2.o.gr.aC (FV s.o.fb).2.2.1;by_cases cJ:qb<r.blocks.length;case neg=>
     cases di
     . go_wp2_with fail;go_ret;exact⟨⟨m0,rfl,by have:=HM.o.1;omega,HM.o.2⟩,s.o.aC.trans (F2.o.gr.aC.mono s.o.aC.size)⟩
     go_wp2_with fail;go_ret;exact⟨⟨-1,rfl,dC,dC⟩,s.o.aC.trans (F2.o.gr.aC.mono s.o.aC.size)⟩
    have eG:(qb:Int)<(r.blocks.length:Int):=oM;obtain⟨m,hm⟩:∃m,r.blocks[qb]?=some m:=⟨_,an cJ⟩;obtain⟨ce,d6,a1,B,eb,_,j1,_,_⟩:=Hd s.o.rf.blocks hm;obtain⟨ja,je,e2,e3,aQ,aG⟩:=HI.o.cC qb m hm;rw[e3]at j1;simp only[i4,lF,lp]at eb;obtain⟨rfl,rfl⟩:=eb;have i1:=Af F2.o.gr.aC j1;obtain⟨x,hx⟩:∃x,f.code[je]?=some x:=⟨_,an aG⟩;obtain⟨dR,eS,dN,ei,db,_,_,_⟩:=St s.o.rc hx;simp only[ip,kU]at ei;obtain⟨rfl,rfl⟩:=ei;have x0:=Af F2.o.gr.aC db;have dx:(je:Int)<(f.code.length:Int):=oM;obtain⟨y,hy,dG,i0⟩:=F2.o.gr.im cJ;have eR:(y:Int)<(r.blocks.length:Int):=oM;obtain⟨c,_,hc,b0,_⟩:=F2.o.at_ dG;clear j1 db e2 e3 hm hx hy;by_cases ae:x.op=29;(case neg=>(have eM:(x.op==29)=false:=by simpa using ae);go_wp2_with fail;go_roundw;(case rel=>exact⟨qb+1,m0,oM,rfl,by go_num,trivial,HM⟩);exact oI);rw[ae]at x0;clear ae;by_cases dU:c>m0;(case pos=>go_wp2_with fail;go_roundw;(case rel=>exact⟨qb+1,c,oM,rfl,by go_num,trivial,by have:=HM.o.1;show Ll c;exact⟨oM,hc.2⟩⟩);exact oI);go_wp2_with fail;go_roundw;(case rel=>exact⟨qb+1,m0,oM,rfl,by go_num,trivial,HM⟩);exact oI
 have cL:(k:Int)<(r.blocks.length:Int):=oM;obtain⟨m,hm⟩:∃m,r.blocks[k]?=some m:=⟨_,an bu⟩;obtain⟨ce,d6,a1,B,eb,j0,j1,_,_⟩:=Hd s.o.rf.blocks hm;obtain⟨ja,je,e2,e3,aQ,aG⟩:=HI.o.cC k m hm;rw[e2]at j0;rw[e3]at j1;simp only[i4,lF,lp]at eb;obtain⟨rfl,rfl⟩:=eb;have i0:=Af A.o.1.aC j0;have HJ:=Ag (f7 j1 ((FV s.o.fb).2.2.1));clear j0 j1 hm e2 e3;go_wp2_with fail;go_loopw [11,12,13] (fun c j _ wr=>∃(c0:Int) (jj:Nat),c=.int .i64 c0/\j=.int .i64 jj/\Ll c0/\jj<=je+1/\Hid (∃bad,Gp d wr G 0 r.at_ (.slice (some ⟨gb,ob,none⟩) r.blocks.length c1) (.slice (some ⟨T,Y,none⟩) r.order.length c2) (.slice v3 r.ej.length c3) (.slice F r.loops.length c4) vI N bad (List.range k) C)) (fun _ j _ _=>je+1-(intOf j).toNat)
 case atStart=>exact⟨0,ja,rfl,rfl,⟨oM,oM⟩,oM,_,A.o.1⟩
 have aM:=Ag A.o.2;clear A y2 i0;obtain⟨c0,jj,rfl,rfl,aT,eo,E5⟩:=hrel;obtain⟨bad,aq⟩:=E5.o;have A:=Ag aq;clear E5 aq;have y2:=Af A.o.aC HJ.o.2;have i1:=Af A.o.aC HJ.o.1;by_cases eu:jj<=je;case neg=>
  have p6:=A.o.cells.1;have EA:Hid (Gp d (wr.alloc (.cells #[.int .i64 (k:Int)] 2)) G 0 r.at_ (.slice (some ⟨gb,ob,none⟩) r.blocks.length c1) (.slice (some ⟨T,Y,none⟩) r.order.length c2) (.slice v3 r.ej.length c3) (.slice F r.loops.length c4) vI N bad (List.range k) C):=A.o.aa (Aa _ _);have OA:Hid ((wr.alloc (.cells #[.int .i64 (k:Int)] 2)).ownsRow d.heap.size 2 1 vI k (nv (List.range k))):=by have:=EA.o.gQ;rw[lO]at this;exact this
  have q6:=EA.o.cells.1;go_upto_region 22 with(first|(at_builtin;refine wpList_append_lies _ rfl _ _ 58 rfl d.heap.size 2 cZ (.int .i64 0) 1 8 Tryz.underlying58 hi bJ bK cY rfl dC vI k (nv (List.range k)) rfl OA.o ⟨wr.heap.size,0,none⟩ 1 1 [.int .i64 (k:Int)] rfl rfl (JJ wr _ _) (fun u hu=>by simp at hu;subst hu;rfl) oM oX oM EA.o.aC.size _ rfl ?_;intro g5 ah w5 aw au aj bw;have PI:Hid _:=EA.o.jx k (.slice (some ⟨g5,0,none⟩) (k+1) ah) (by rw[lO];exact aw) au (P9 aj);have s6:=PI.o.2.1;have bO:=PI.o.2.2;clear aw au aj bw)|go_in)
  have D:Hid (Gp d (w5.setCell ⟨G,6,none⟩ (.slice (some ⟨g5,0,none⟩) (k+1) ah)) G 0 r.at_ (.slice (some ⟨gb,ob,none⟩) r.blocks.length c1) (.slice (some ⟨T,Y,none⟩) r.order.length c2) (.slice v3 r.ej.length c3) (.slice F r.loops.length c4) (.slice (some ⟨g5,0,none⟩) (k+1) ah) N bad (List.range (k+1)) C):=by have:=PI.o.1;rw[<-mF]at this;exact this
  clear PI s6 bO EA OA q6 p6 A y2 i1;refine Ao (fun U=>Hid (Gp d U G 0 r.at_ (.slice (some ⟨gb,ob,none⟩) r.blocks.length c1) (.slice (some ⟨T,Y,none⟩) r.order.length c2) (.slice v3 r.ej.length c3) (.slice F r.loops.length c4) (.slice (some ⟨g5,0,none⟩) (k+1) ah) N bad (List.range (k+1)) C)) D ?_;clear D;rintro U D;have p7:=D.o.cells.2.1;have EB:Hid (Gp d (U.alloc (.cells #[.int .i64 c0] 2)) G 0 r.at_ (.slice (some ⟨gb,ob,none⟩) r.blocks.length c1) (.slice (some ⟨T,Y,none⟩) r.order.length c2) (.slice v3 r.ej.length c3) (.slice F r.loops.length c4) (.slice (some ⟨g5,0,none⟩) (k+1) ah) N bad (List.range (k+1)) C):=D.o.aa (Aa _ _);have OB:Hid ((U.alloc (.cells #[.int .i64 c0] 2)).ownsRow d.heap.size 2 1 N k (C.flatMap Ad)):=by have:=EB.o.cost;rw[aM.o]at this;exact this
  have q7:=EB.o.cells.2.1;go_wp2_with (first|(at_builtin;refine wpList_append_lies _ rfl _ _ 58 rfl d.heap.size 2 cZ (.int .i64 0) 1 8 Tryz.underlying58 hi bJ bK cY rfl dC N k (C.flatMap Ad) rfl OB.o ⟨U.heap.size,0,none⟩ 1 1 [.int .i64 c0] rfl rfl (JJ U _ _) (fun u hu=>by simp at hu;subst hu;rfl) oM oX oM EB.o.aC.size _ rfl ?_;intro g6 dj w6 aw au aj bw;have PI:Hid _:=EB.o.iL aT (.slice (some ⟨g6,0,none⟩) (k+1) dj) (by rw[aM.o];exact aw) au (P9 aj);have s6:=PI.o.2.1;have bO:=PI.o.2.2;clear aw au aj bw)|go_in);clear s6 bO q7 p7 EB OB D;go_roundw;case rel=>exact⟨k+1,oM,by go_num,_,_,_,_,PI.o.1,by rw[f6,aM.o];rfl⟩
  exact oI
 have ew:(jj:Int)<=(je:Int):=oM;obtain⟨x,hx⟩:∃x,f.code[jj]?=some x:=⟨_,an oM⟩;obtain⟨gi,oi,ci,ei,x0,x1,x2,x3⟩:=St s.o.rc hx;simp only[ip,kU]at ei;obtain⟨rfl,rfl⟩:=ei;have dx:(jj:Int)<(f.code.length:Int):=oM;rw[<-A.o.aC.cell (d5 x0)]at x0;rw[<-A.o.aC.cell (d5 x1)]at x1;rw[<-A.o.aC.cell (d5 x2)]at x2;rw[<-A.o.aC.cell (d5 x3)]at x3;have HX:=Ag hx;clear hx;go_upto_region 16 with fail
 have D:Hid (Gp d (wr.alloc (.cells #[.int .i64 x.op,.int .i64 x.a,.int .i64 x.b,.int .i64 x.c] 96)) G 0 r.at_ (.slice (some ⟨gb,ob,none⟩) r.blocks.length c1) (.slice (some ⟨T,Y,none⟩) r.order.length c2) (.slice v3 r.ej.length c3) (.slice F r.loops.length c4) vI N bad (List.range k) C/\Aw (wr.alloc (.cells #[.int .i64 x.op,.int .i64 x.a,.int .i64 x.b,.int .i64 x.c] 96)) wr.heap.size #[.int .i64 x.op,.int .i64 x.a,.int .i64 x.b,.int .i64 x.c] 96):=⟨A.o.aa (Aa _ _),Aw.new _ _ _⟩
 have dg:Hid (x.op=28->∃(q:Nat) (fq:MF),x.a=q/\p.funcs[q]?=some fq):=fun e=>(bP.o.parts.2.2.2.1 q (d7.1 HF.o.1).1 f HF.o.1 jj (d7.1 HX.o).1 x HX.o).callee e
 clear x0 x1 x2 x3 y2 i1 A;generalize wr.heap.size=X at D⊢;refine Ao (fun U=>Hid (Gp d U G 0 r.at_ (.slice (some ⟨gb,ob,none⟩) r.blocks.length c1) (.slice (some ⟨T,Y,none⟩) r.order.length c2) (.slice v3 r.ej.length c3) (.slice F r.loops.length c4) vI N bad (List.range k) C/\Aw U X #[.int .i64 x.op,.int .i64 x.a,.int .i64 x.b,.int .i64 x.c] 96)) D ?_
 clear D;rintro U D;have dn:X≠G:=fun e=>by
  have B:=D.o.2;have e2:=D.o.1.cC;unfold Aw at B e2;rw[e,e2]at B;injection B with B
  injection B with _ B
  exact absurd B dC
 obtain⟨d0,d1,d2,d3⟩:=Ce D.o.2;go_wp2_with fail;refine(CS x.op U).mono ?_;rintro e u3 ⟨rfl,J⟩;obtain⟨si,ci,fo,bT,aF⟩:=NY x.op;rw[bT];have du:=N6 si ci fo;have E8:Hid (Gp d u3 G 0 r.at_ (.slice (some ⟨gb,ob,none⟩) r.blocks.length c1) (.slice (some ⟨T,Y,none⟩) r.order.length c2) (.slice v3 r.ej.length c3) (.slice F r.loops.length c4) vI N bad (List.range k) C/\Aw u3 X #[.int .i64 x.op,.int .i64 x.a,.int .i64 x.b,.int .i64 x.c] 96):=⟨D.o.1.aa J,D.o.2.aa J⟩
 clear J D d0 d1 d2 d3 bT;go_wp2_with fail;refine(Gj G c0 ci _ u3 aT aF E8.o.1.cells.2.2.1 (E8.o.1.cells.2.2.2 8)).mono ?_;rintro e u4 ⟨c7,rfl,aU,hU⟩;have L:Hid (∃bad,Gp d u4 G 0 r.at_ (.slice (some ⟨gb,ob,none⟩) r.blocks.length c1) (.slice (some ⟨T,Y,none⟩) r.order.length c2) (.slice v3 r.ej.length c3) (.slice F r.loops.length c4) vI N bad (List.range k) C/\Aw u4 X #[.int .i64 x.op,.int .i64 x.a,.int .i64 x.b,.int .i64 x.c] 96):=by
  rcases hU with rfl|rfl
  . exact⟨_,E8.o⟩
  exact⟨_,E8.o.1.gX,E8.o.2.other (a:=⟨G,8,none⟩) dn _⟩
 clear hU E8 du aF aT;obtain⟨dh,cF,cU⟩:=L.o;have F0:=Ag (f7 cF cU);clear cF cU L;obtain⟨d0,d1,d2,d3⟩:=Ce F0.o.2;by_cases ae:x.op=28;case neg=>
  go_wp2_with fail;go_roundw;case rel=>exact⟨c7,jj+1,rfl,by go_num,aU,oM,dh,F0.o.1⟩
  exact oI
 obtain⟨cq,fq,bH,_⟩:=dg.o ae;rw[bH]at d1;rw[ae]at d0;have df:=Ag aU;clear aU;by_cases cD:(R.length:Int)<=(cq:Int);case pos=>have dV:(cq:Int)>=(R.length:Int):=cD;clear ae bH;go_wp2_with fail;go_ret;exact⟨⟨-1,rfl,dC,dC⟩,s.o.aC.trans (F0.o.1.aC.mono s.o.aC.size)⟩
 have dW:¬(cq:Int)>=(R.length:Int):=cD;have dq:cq<R.length:=oM;have dX:(cq:Int)<(R.length:Int):=oM;obtain⟨z,hz⟩:∃z,R[cq]?=some z:=⟨_,an dq⟩;obtain⟨ga,oa,ea,kz⟩:∃ga oa,ca=some ⟨ga,oa,none⟩/\u4.cell? ⟨ga,oa+cq,none⟩=some (.int .i64 z):=by
  have:=Rd.aa s.o.cs F0.o.1.aC lR;rcases this.2 with⟨e0,_⟩|⟨g1,o1,dL,B,hc⟩
  . omega
  simp only[ip,kU]at B;exact⟨g1,o1,B.1,hc cq _ (FN hz)⟩
 subst ea;clear hz ae bH;by_cases bJ:z<0;case pos=>go_wp2_with fail;go_ret;exact⟨⟨-1,rfl,dC,dC⟩,s.o.aC.trans (F0.o.1.aC.mono s.o.aC.size)⟩
 by_cases bK:z>4294967295;case pos=>go_wp2_with fail;go_ret;exact⟨⟨-1,rfl,dC,dC⟩,s.o.aC.trans (F0.o.1.aC.mono s.o.aC.size)⟩
 go_wp2_with fail;refine(Gj G c7 z _ u4 df.o ⟨oM,oM⟩ F0.o.1.cells.2.2.1 (F0.o.1.cells.2.2.2 8)).mono ?_;rintro e u5 ⟨c8,rfl,dp,hU⟩;have F1:Hid (∃bad,Gp d u5 G 0 r.at_ (.slice (some ⟨gb,ob,none⟩) r.blocks.length c1) (.slice (some ⟨T,Y,none⟩) r.order.length c2) (.slice v3 r.ej.length c3) (.slice F r.loops.length c4) vI N bad (List.range k) C):=by
  rcases hU with rfl|rfl
  . exact⟨_,F0.o.1⟩
  exact⟨_,F0.o.1.gX⟩
 clear hU F0 kz d0 d1 d2 d3;go_wp2_with fail;go_roundw;case rel=>exact⟨c8,jj+1,rfl,by go_num,dp,oM,F1⟩
 exact oI
end Go.Proofs.YthjbicggfnnonaaGreatDoor
