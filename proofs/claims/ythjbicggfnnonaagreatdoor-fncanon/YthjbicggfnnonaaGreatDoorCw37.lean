import Derived.Test.YthjbicggfnnonaaGreatDoorCw35
namespace Go.Proofs.YthjbicggfnnonaaGreatDoor
open Go.ChangeShapes Go.WideShapes Go.ChangeAt Go.RowKit
set_option linter.unusedVariables false
set_option maxHeartbeats 8000000
set_option maxRecDepth 100000
variable {p:MP}{f:MF}{u a w b:World}{s:Value}{n:Nat}
theorem Qp:∀{c a:Nat} {sh:List Int} {T:Nat->List Int} {D:Nat} {e:Int×Nat},G4 p f c a sh T D=.inl e->e.1≠0
 |0,_,_,_,_,_,h=>by cases h
 | c+1,a,sh,T,D,e,h=>by
   unfold G4 at h;split at h
   . cases h
   split at h
   . exact Qp h
   rename_i b;(cases h);exact b
theorem Qr{c:List MB}:∀{l:List Nat} {s:WS} {e:Int×Nat},Io p f c l s=.inl e->e.1≠0
 |[],_,_,h=>by cases h
 | b ::r,s,e,h=>by
   unfold Io at h;split at h
   . cases h
   split at h
   . rename_i m _ g a;(cases h);unfold Tb at a;split at a
     . rename_i d;(cases a);exact Qp d
     split at a
     . (cases a);simp
     cases a
   exact Qr h
theorem OS.len{q:Nat}{y:Vu}(h:OS p (q:Int) y)(a:y.code=0)(b:p.funcs[q]?=some f):y.gG.length=f.code.length:=by
 rcases h with⟨_,e⟩|⟨_,_,f',r,h1,_,_,e⟩
 . subst e;cases a
 rw[kJ,b]at h1;obtain rfl:=kH h1;subst e;revert a;cases hr:Io p f r.blocks (r.order.map Int.toNat) Qy with
 |inl e=>intro a;exact absurd a (Qr hr)
 |inr s=>intro _;simp[Vp]
def OJ(u:World)(s:Value)(n:Nat):Prop:=∃xs:List Value,Rd u 1 s n xs/\∀x∈xs,∃(a:Option Addr) (m c:Nat),x=.slice a m c
theorem OJ.of{rs:List (List Int)}(h:OR u s rs):OJ u s rs.length:=by obtain⟨xs,h1,h2,d⟩:=h;refine⟨_,h2,fun x f=> ?_⟩;obtain⟨y,g,b⟩:=lP.1 f;obtain⟨a,c,e⟩:=(d y g).bW;simp only[Bi,kM]at b;exact⟨a,_,c,by rw[b,e]⟩
theorem OJ.aa(h:OJ u s n)(b:Below u.heap.size u a):OJ a s n:=by obtain⟨xs,h1,h2⟩:=h;exact⟨xs,h1.aa b lR,h2⟩
theorem OJ.set(h:OJ u s n){a:Addr}{k:IntKind}{z:Int}(q:u.cell? a=some (.int k z))(V:Value):OJ (u.setCell a V) s n:=by obtain⟨xs,⟨h1,h2⟩,i⟩:=h;refine⟨xs,⟨h1,h2.imp_right fun⟨g,o,c,e,r⟩=>⟨g,o,c,e,fun j v l=> ?_⟩⟩,i⟩;have f:=r j v l;obtain⟨b,m,d,e⟩:=i v (d9 l);rw[li _ _ _ _ (fun p=>by rw[<-p,q]at f;rw[e]at f;cases f)];exact f
theorem OJ.bW(h:OJ u s n):∃a c,s=.slice a n c:=by obtain⟨xs,h1,_⟩:=h;exact h1.bW
theorem UV{a:Option Addr}{c:Nat}(h:OJ u (.slice a n c) n){k:Nat}(p:k<n):∃(g o:Nat) (b:Option Addr) (d c1:Nat),a=some ⟨g,o,none⟩/\u.cell? ⟨g,o+k,none⟩=some (.slice b d c1):=by
 obtain⟨xs,h2,j⟩:=h;have q:=h2.1;obtain⟨x,f⟩:∃x,xs[k]?=some x:=⟨_,an oM⟩;obtain⟨b,d,c1,i⟩:=j x (d9 f);rcases h2.2 with⟨m,_⟩|⟨g,o,c',e,l⟩
 . omega
 simp only[ip]at e;exact⟨g,o,b,d,c1,e.1,by rw[l k x f,i]⟩
theorem Og(v:VP)(p:MP)(q:Nat)(f:MF)(y:Vu)(s dv:Value)(D:List Int)(w:World)(hs:p.small)(ao:Bj p 0)(h:Ft w v p)(I:p.funcs[q]?=some f)(hy:OJ w s y.gG.length)(au:y.gG.length=f.code.length)(hd:Rd w 1 dv D.length (D.flatMap Ad))(am:D.length=p.funcs.length):
 Calls Tryz.prog 132 #[.agg #[v.r,v.k,v.f,v.t],iZ (q:Int),.agg #[iZ y.code,iZ y.at_,iZ y.depth,s],dv] w fun e w'=>(∃n,e=.returned (iZ n))/\Below w.heap.size w w':=by
 obtain⟨V,W,P,Q,X,Y,f1,f3,rfl⟩:=h.sl;obtain⟨sa,C,es⟩:∃a c,s=.slice a y.gG.length c:=hy.bW;subst es;obtain⟨da,dc,rfl⟩:=hd.bW;have bp:=(d7.1 I).1;have M:=Ag (f7 au am);clear au am;obtain⟨l,A,ck,ah,g,a8,m0,m1,m2,R⟩:=Ma h.funcs I;simp only[ip,kU]at ah;obtain⟨rfl,rfl⟩:=ah;obtain⟨g1,g3,g4,g6,g7,g9,rfl⟩:=Hs a8;have aS:=(hs.func f (d9 I)).2.2;have aZ:(q:Int)<(p.funcs.length:Int):=oM;have H:=Ag (f7 ao (f7 h (f7 I (f7 hy (f7 hd a8.2.2)))));have E0:=GP w #[.slice V p.aB.length W,.slice P p.ag.length Q,sO l A p.funcs.length f3,.slice X p.a7.length Y] #[iZ y.code,iZ y.at_,iZ y.depth,.slice sa y.gG.length C] 29 213;simp only[]at R;have M3:Hid (w.cell? ⟨l,A+q*4+3,none⟩=some (.slice g7 f.code.length g9)):=R;clear ao h I hy hd a8 m0 m1 m2 R;go_enter Tryz.func132,Tryz.ntmps132;go_upto_region 1 with fail
 refine Ao (fun u=>Hid (Aw u w.heap.size #[.slice V p.aB.length W,.slice P p.ag.length Q,sO l A p.funcs.length f3,.slice X p.a7.length Y] 29/\Aw u (w.heap.size+1) #[iZ y.code,iZ y.at_,iZ y.depth,.slice sa y.gG.length C] 213/\Below w.heap.size w u)) E0 ?_
 rintro U b;obtain⟨p0,p1,p2,p3⟩:=Ce b.o.1;obtain⟨z0,z1,z2,z3⟩:=Ce b.o.2.1;have R:=Af b.o.2.2 M3.o;go_wp2_with fail;go_loopw [9,11,12] (fun m i _ wr=>∃(m0:Int) (j:Nat),m=iZ m0/\i=iZ j/\j<=f.code.length/\Hid (Aw wr w.heap.size #[.slice V p.aB.length W,.slice P p.ag.length Q,sO l A p.funcs.length f3,.slice X p.a7.length Y] 29/\Aw wr (w.heap.size+1) #[iZ y.code,iZ y.at_,iZ y.depth,.slice sa y.gG.length C] 213/\Below w.heap.size w wr)) (fun _ i _ _=>f.code.length-(intOf i).toNat)
 case atStart=>exact⟨y.depth,0,rfl,rfl,oM,b⟩
 obtain⟨T,j,rfl,rfl,hj,b⟩:=hrel;by_cases aF:j<f.code.length;case neg=>go_wp2_with fail;go_ret;exact⟨⟨T,rfl⟩,b.o.2.2⟩
 have aX:(j:Int)<(f.code.length:Int):=oM;obtain⟨x,hx⟩:∃x,f.code[j]?=some x:=⟨_,an aF⟩;obtain⟨gi,oi,ci,ei,aJ,aw,_,_⟩:=St H.o.2.2.2.2.2 hx;simp only[ip,kU]at ei;obtain⟨rfl,rfl⟩:=ei;have x0:=Af b.o.2.2 aJ;have aA:Hid (x.op=28->∃(q:Nat) (E:MF),x.a=q/\p.funcs[q]?=some E):=fun e=>(H.o.1.parts.2.2.2.1 q (d7.1 H.o.2.2.1).1 f H.o.2.2.1 j (d7.1 hx).1 x hx).callee e
 by_cases a6:x.op=28;case neg=>
  have aY:(x.op != 28)=true:=by simpa using a6
  go_wp2_with fail;go_roundw;case rel=>exact⟨T,j+1,rfl,by go_num,oM,b⟩
  exact oI
 obtain⟨d,E,aI,aq⟩:=aA.o a6;rw[aI]at aw;rw[a6]at x0;have aR:=(d7.1 aq).1;have aQ:(d:Int)<(p.funcs.length:Int):=oM;have aP:(d:Int)<(D.length:Int):=by have:=M.o.2;omega
 obtain⟨aN,bu,aM,aj,g',aG,n0,_,_,_⟩:=Ma H.o.2.1.funcs aq;simp only[ip,kU,i4,lF,lp]at aj;obtain⟨⟨rfl,rfl⟩,rfl⟩:=aj;obtain⟨h1,h3,h4,h6,h7,h9,rfl⟩:=Hs aG;simp only[]at n0;obtain⟨G,K,a1,ae,c1,es,aH⟩:=UV H.o.2.2.2.1 (show j<y.gG.length by have:=M.o.1;omega);subst es;have bt:(j:Int)<(y.gG.length:Int):=by have:=M.o.1;omega
 obtain⟨O,aE⟩:∃z,D[d]?=some z:=⟨_,an (by have:=M.o.2;omega)⟩;obtain⟨F,J,ea,kz⟩:∃F J,da=some ⟨F,J,none⟩/\w.cell? ⟨F,J+d,none⟩=some (iZ O):=by
  rcases H.o.2.2.2.2.1.2 with⟨e0,_⟩|⟨g1,o1,aL,e1,hc⟩
  . omega
  simp only[ip,kU]at e1;exact⟨g1,o1,e1.1,hc d _ (FN aE)⟩
 subst ea;have HS:Hid (∀U:World,Aw U w.heap.size #[.slice V p.aB.length W,.slice P p.ag.length Q,sO l A p.funcs.length f3,.slice X p.a7.length Y] 29/\Aw U (w.heap.size+1) #[iZ y.code,iZ y.at_,iZ y.depth,sO G K y.gG.length C] 213/\Below w.heap.size w U->U.cell? ⟨w.heap.size+1,3,none⟩=some (sO G K y.gG.length C)/\U.cell? ⟨G,K+j,none⟩=some (.slice a1 ae c1)/\U.cell? ⟨w.heap.size,2,none⟩=some (sO l A p.funcs.length f3)/\U.cell? ⟨gi,oi+j*4+1,none⟩=some (iZ (d:Int))/\U.cell? ⟨l,A+d*4,none⟩=some (.slice h1 E.params.length h3)/\U.cell? ⟨F,J+d,none⟩=some (iZ O)):=fun U B=>⟨(Ce B.2.1).2.2.2,Af B.2.2 aH,(Ce B.1).2.2.1,Af B.2.2 aw,Af B.2.2 n0,Af B.2.2 kz⟩
 obtain⟨Z,aT⟩:∃Z,IntKind.i64.wrap ((ae:Int)-(E.params.length:Int))=Z:=⟨_,rfl⟩;obtain⟨N,aU⟩:∃N,IntKind.i64.wrap (Z+O)=N:=⟨_,rfl⟩;go_upto_region 7 with fail
 have L:=Ag (f7 (b.o.1.aa (Ae _)) (f7 (b.o.2.1.aa (Ae _)) (Ac b.o.2.2 sP (Ae _))));refine wp_region_held_drew (S:=fun U=>U.cell? ⟨w.heap.size+1,3,none⟩=some (sO G K y.gG.length C)/\U.cell? ⟨G,K+j,none⟩=some (.slice a1 ae c1)/\U.cell? ⟨w.heap.size,2,none⟩=some (sO l A p.funcs.length f3)/\U.cell? ⟨gi,oi+j*4+1,none⟩=some (iZ (d:Int))/\U.cell? ⟨l,A+d*4,none⟩=some (.slice h1 E.params.length h3)/\U.cell? ⟨F,J+d,none⟩=some (iZ O)) kR (by exact HS.o _ L.o) (fun aD=> ?_)
 generalize wr.drew=UD at L aD⊢;refine An 0 ?_;refine An 1 ?_;refine An 2 ?_;refine An 3 ?_;refine An 4 ?_;refine An 5 ?_;refine An 6 ?_;refine An 7 ?_;refine An 8 ?_;refine An 9 ?_;refine An 10 ?_;refine An 11 ?_;refine An 12 ?_;refine An 13 ?_;refine An 14 ?_;refine An 15 ?_;refine An 16 ?_;refine An 17 ?_;refine An 18 ?_;refine An 19 ?_;refine An 20 ?_;refine An 21 ?_;refine An 22 ?_;refine An 23 ?_;refine An 24 ?_;refine An 25 ?_;refine An 26 ?_;refine An 27 ?_;refine wpAnyH_done kR ?_ _;go_simp;by_cases aW:N>T;case pos=>
  go_wp2_with fail;go_roundw;case rel=>exact⟨N,j+1,rfl,by go_num,oM,L⟩
  exact oI
 case neg=>
  go_wp2_with fail;go_roundw;case rel=>exact⟨T,j+1,rfl,by go_num,oM,L⟩
  exact oI
def Kt:Prop:=∀(u:World) (s:CP) (p k:Int),Dy u s.S s.a s.len s.cap p->p+3000000300<=100000000000->1<=k->k<=1000000->Calls Tryz.prog 28 #[.pointer (some ⟨s.S,0,none⟩),iZ k] u (JP s p 3000000300 100002 u)
theorem Jw.of{s:CP}{p:Int}{V:Value}{a:List Value}(h:LT w u s p)(d:Below u.heap.size u b)(c:B5 a)(e:b.ownsRow u.heap.size 5 1 V a.length a):Jw w b s p V a:=⟨BD e h.size,c,h.on d⟩
theorem Ry(z:Int):0<=IntKind.u8.wrap (z+1)/\IntKind.u8.wrap (z+1)<=255:=by
 show 0<=(z+1) % 2 ^ 8/\(z+1) % 2 ^ 8<=255
 omega
theorem JD(hM:Kt)(u:World)(s:CP)(p:Int)(f:Dy u s.S s.a s.len s.cap p)(hp:p+4000000000<=100000000000):
 Calls Tryz.prog 8 #[.pointer (some ⟨s.S,0,none⟩)] u (TY u s p 4000000000 500000):=by
 obtain⟨X,Q,T,U,W⟩:=kS infoBD;have aM:=f.low;have ao:=f.lt;have E0:=Ag f;go_enter Tryz.func8,Tryz.ntmps8;go_wp2_with fail;refine(hM _ s _ 4 E0.o oM oM oM).mono ?_;rintro e U1 ⟨v,x,rfl,ht,au,p1,aw,aA,f,l⟩;have E1:=Ag (show LT u U1 s p1 from⟨l,f,ao⟩);have ET:=Ag (f7 ht au);go_wp2_with fail;refine(LP v x _ _ U1 (ET.o.2.small oM) ET.o.2.wf ET.o.1 lR).mono ?_;rintro e U2 ⟨V,rfl,hb,I,aI,aq,a8,ho⟩;have O:=Ag (Jw.of E1.o hb a8 ho);obtain⟨a,c,rfl,aH,aJ,a8⟩:=O.o.sl;by_cases Y:I.length=0
 . rw[Y]at O⊢;go_wp2_with fail;refine(Al O.o.gV.src).mono ?_;rintro e U3 ⟨r,r0,r1,rfl,f,l⟩;have y:=Ag (O.o.gV.draw f l);go_wp2_with fail;refine(Oc U3 s _ r y.o.src oM r0 oM).mono ?_;rintro e U4 ⟨V4,J,p4,rfl,aD,aE,aF,h4⟩;have A:Hid (Jw u U4 s p4 V4 J):=⟨BD h4.own y.o.size,h4.all,⟨y.o.gJ.trans h4.gV.gJ,h4.gV.src,ao⟩⟩;go_wp2_with fail;go_ret;exact⟨_,J,p4,rfl,oM,oM,oM,A.o⟩
 have aG:10<=I.length:=by
  rcases aq with e|e
  . rw[e]at Y;exact absurd rfl Y
  exact e
 obtain⟨g,rfl⟩:=a8 oM;have aL:((I.length:Int)==0)=false:=by simpa using Y
 go_wp2_with fail;refine(Al O.o.gV.src).mono ?_;rintro e U3 ⟨r,r0,r1,rfl,f,l⟩;have y:=Ag (O.o.draw f l);have R:r=0\/r=1\/(r=2\/r=3\/r=4)\/r=5\/r=6\/r=7\/r=8\/r=9:=oM
 rcases R with rfl|rfl|R|R
 . go_wp2_with fail;refine(Al y.o.gV.src).mono ?_;rintro e U4 ⟨i,ah,i1,rfl,f,l⟩;have A:=Ag (y.o.draw f l);obtain⟨k,rfl⟩:=i7 ah;obtain⟨z,hz,z0,z1⟩:=A.o.at rfl (i:=k) oM;have fz:=A.o.fz rfl k;have za:=Ry z;obtain⟨J,hl,P⟩:=A.o.set rfl k _ za.1 za.2;go_wp2_with fail;go_ret;exact⟨_,J,_,rfl,oM,oM,oM,P.o⟩
 . go_wp2_with fail;refine(Al y.o.gV.src).mono ?_;rintro e U4 ⟨i,ah,i1,rfl,f,l⟩;have A:=Ag (y.o.draw f l);obtain⟨k,rfl⟩:=i7 ah;obtain⟨J,hl,P⟩:=A.o.front rfl (m:=k) oM oM;go_wp2_with fail;go_ret;exact⟨_,J,_,rfl,oM,oM,oM,P.o⟩
 . obtain⟨m,hm⟩:∃m,I.length=m+4:=⟨I.length-4,oM⟩;have aN:((I.length:Int)-4)=(m:Int):=oM;obtain⟨J,hl,A⟩:=y.o.front rfl (m:=m) oM oM;(rcases R with rfl|rfl|rfl);all_goals
    go_wp2_with fail;refine(Al A.o.gV.src).mono ?_;rintro e U5 ⟨i,j0,j1,rfl,f,l⟩;have P:=Ag (A.o.draw f l);obtain⟨k,rfl⟩:=i7 j0;go_wp2_with fail;refine(Al P.o.gV.src).mono ?_;rintro e U6 ⟨q,q0,q1,rfl,f,l⟩;have B:=Ag (P.o.draw f l);have hq:q=0\/q=1\/q=2\/q=3:=oM
    rcases hq with rfl|rfl|rfl|rfl
    . go_wp2_with fail;refine(Al B.o.gV.src).mono ?_;rintro e U7 ⟨b,b0,b1,rfl,f,l⟩;have E7:=Ag (B.o.draw f l);have hb:=LZ b b0 b1;obtain⟨z,hz,z0,z1⟩:=E7.o.at rfl (i:=k) oM;have fz:=E7.o.fz oM k;obtain⟨d,hf,h⟩:=E7.o.set oM k b b0 oM;go_wp2_with fail;have t:=Ag (Di h.o.all);refine(Ge _ d.length (BN d) _ oM (by rw[t.o.1];exact Cj.cB h.o.own) t.o.2).mono ?_;rintro e u9 ⟨rfl,rfl⟩;obtain⟨M,N⟩:=Hu (~~~(BU (BN d) d.length))
      generalize DO (~~~(BU (BN d) d.length))=C at M N⊢
      (have ae:wrap64 C=C:=by unfold wrap64;omega);go_wp2_with fail;refine(AU C 4 _ oM oM).mono ?_;rintro e aj ⟨rr,rfl,w,H⟩;have j:=Ag (h.o.aa H);obtain⟨ad,cr,K⟩:=Cg w oM;subst K;have G:=Ag (Bm w);go_wp2_with (at_builtin;refine wpList_append_own _ rfl _ _ 22 rfl u.heap.size 5 X (.int .u8 0) 1 1 Tryz.underlying22 Q T U W rfl dC _ _ _ rfl j.o.own ad 4 cr (Az C 4) rfl (by rw[Ak]) G.o (AX _ _) oX oM j.o.gV.size ?_);intro a6 am D E Z;obtain⟨L,hg,F⟩:=j.o.en (Ak _ _) (AK _ _) D E;go_wp2_with fail;go_ret;exact⟨_,L,_,rfl,oM,oM,oM,F.o⟩
    . go_wp2_with (at_builtin;refine wpList_append_own _ rfl _ _ 22 rfl u.heap.size 5 X (.int .u8 0) 1 1 Tryz.underlying22 Q T U W rfl dC _ _ _ rfl (B.o.own.alloc _) ⟨U6.heap.size,0,none⟩ 1 1 [_] rfl rfl (cell_one_new _ _ _) (ints_oneCell .u8 [_]) oX oM (by have:=B.o.gV.size;simp;omega) ?_);intro V' w2 D E Z;obtain⟨d,hf,h⟩:=(B.o.aa (Aa _ _)).en (n:=1) rfl (fun x hx=>⟨0,kM.1 hx,oM,oM⟩) D E;go_wp2_with fail;have t:=Ag (Di h.o.all);refine(Ge _ d.length (BN d) _ oM (by rw[t.o.1];exact Cj.cB h.o.own) t.o.2).mono ?_;rintro e u9 ⟨rfl,rfl⟩;obtain⟨M,N⟩:=Hu (~~~(BU (BN d) d.length))
      generalize DO (~~~(BU (BN d) d.length))=C at M N⊢
      (have ae:wrap64 C=C:=by unfold wrap64;omega);go_wp2_with fail;refine(AU C 4 _ oM oM).mono ?_;rintro e aj ⟨rr,rfl,w,H⟩;have j:=Ag (h.o.aa H);obtain⟨ad,cr,K⟩:=Cg w oM;subst K;have G:=Ag (Bm w);go_wp2_with (at_builtin;refine wpList_append_own _ rfl _ _ 22 rfl u.heap.size 5 X (.int .u8 0) 1 1 Tryz.underlying22 Q T U W rfl dC _ _ _ rfl j.o.own ad 4 cr (Az C 4) rfl (by rw[Ak]) G.o (AX _ _) oX oM j.o.gV.size ?_);intro a6 am D E Z;obtain⟨L,hg,F⟩:=j.o.en (Ak _ _) (AK _ _) D E;go_wp2_with fail;go_ret;exact⟨_,L,_,rfl,oM,oM,oM,F.o⟩
    . obtain⟨d,hf,h⟩:=B.o.front oM (m:=k) oM oM;go_wp2_with fail;have t:=Ag (Di h.o.all);refine(Ge _ d.length (BN d) _ oM (by rw[t.o.1];exact Cj.cB h.o.own) t.o.2).mono ?_;rintro e u9 ⟨rfl,rfl⟩;obtain⟨M,N⟩:=Hu (~~~(BU (BN d) d.length))
      generalize DO (~~~(BU (BN d) d.length))=C at M N⊢
      (have ae:wrap64 C=C:=by unfold wrap64;omega);go_wp2_with fail;refine(AU C 4 _ oM oM).mono ?_;rintro e aj ⟨rr,rfl,w,H⟩;have j:=Ag (h.o.aa H);obtain⟨ad,cr,K⟩:=Cg w oM;subst K;have G:=Ag (Bm w);go_wp2_with (at_builtin;refine wpList_append_own _ rfl _ _ 22 rfl u.heap.size 5 X (.int .u8 0) 1 1 Tryz.underlying22 Q T U W rfl dC _ _ _ rfl j.o.own ad 4 cr (Az C 4) rfl (by rw[Ak]) G.o (AX _ _) oX oM j.o.gV.size ?_);intro a6 am D E Z;obtain⟨L,hg,F⟩:=j.o.en (Ak _ _) (AK _ _) D E;go_wp2_with fail;go_ret;exact⟨_,L,_,rfl,oM,oM,oM,F.o⟩
    obtain⟨z,hz,z0,z1⟩:=B.o.at rfl (i:=4) oM;have fz:=B.o.fz oM 4;obtain⟨d,hf,h⟩:=B.o.set oM 4 2 oM oM;go_wp2_with fail;have t:=Ag (Di h.o.all);refine(Ge _ d.length (BN d) _ oM (by rw[t.o.1];exact Cj.cB h.o.own) t.o.2).mono ?_;rintro e u9 ⟨rfl,rfl⟩;obtain⟨M,N⟩:=Hu (~~~(BU (BN d) d.length))
    generalize DO (~~~(BU (BN d) d.length))=C at M N⊢
    (have ae:wrap64 C=C:=by unfold wrap64;omega);go_wp2_with fail;refine(AU C 4 _ oM oM).mono ?_;rintro e aj ⟨rr,rfl,w,H⟩;have j:=Ag (h.o.aa H);obtain⟨ad,cr,K⟩:=Cg w oM;subst K;have G:=Ag (Bm w);go_wp2_with (at_builtin;refine wpList_append_own _ rfl _ _ 22 rfl u.heap.size 5 X (.int .u8 0) 1 1 Tryz.underlying22 Q T U W rfl dC _ _ _ rfl j.o.own ad 4 cr (Az C 4) rfl (by rw[Ak]) G.o (AX _ _) oX oM j.o.gV.size ?_);intro a6 am D E Z;obtain⟨L,hg,F⟩:=j.o.en (Ak _ _) (AK _ _) D E;go_wp2_with fail;go_ret;exact⟨_,L,_,rfl,oM,oM,oM,F.o⟩
 rcases R with rfl|rfl|rfl|rfl|rfl
 all_goals
  go_wp2_with fail;go_ret;exact⟨_,I,_,rfl,oM,oM,oM,y.o⟩
theorem AG.gP(h:Below w.heap.size w a)(c:AG w.heap.size a b):Below w.heap.size w b:=h.grown c.grow h.size (fun k d=>by cases d;exact Nat.le_refl _)
theorem KG(j:Kt)(a:Option Addr)(len cap:Nat)(w:World)(m:len<=140737488355328)(l:G5 w w.heap.size a len):
 Calls Tryz.prog 4 #[.slice a len cap] w fun e f=>∃(V:Value) (b:List Value),e=.returned V/\b.length<=500000/\B5 b/\f.ownsRow w.heap.size 5 1 V b.length b/\Below w.heap.size w f:=by
 have h:=Ag l;go_enter Tryz.func4,Tryz.ntmps4;go_wp2_with fail;refine(MO a len cap w m h.o).mono ?_;rintro e p ⟨rfl,n,k⟩;have c:=Ag (f7 n k);go_wp2_with fail;refine(JD j p ⟨w.heap.size,a,len,cap⟩ 0 c.o.1 oM).mono ?_;rintro e r ⟨V,b,q,rfl,h1,h2,i,d⟩;have g:=Ag (f7 d.all (f7 (BD d.own c.o.2.size) (AG.gP c.o.2 d.gV.gJ)));go_wp2_with fail;go_ret;exact⟨V,b,rfl,i,g.o⟩
end Go.Proofs.YthjbicggfnnonaaGreatDoor
