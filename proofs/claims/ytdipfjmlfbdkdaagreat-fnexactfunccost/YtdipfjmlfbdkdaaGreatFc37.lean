import Derived.Test.YtdipfjmlfbdkdaaGreatFc33
namespace Go.Proofs.YtdipfjmlfbdkdaaGreat
open Go.ChangeShapes Go.WideShapes Go.ChangeAt Go.RowKit
set_option linter.unusedVariables false
set_option maxHeartbeats 8000000
set_option maxRecDepth 100000
theorem Dh(a:Option Addr)(c:Nat)(ps:List Int)(z:Int)(w:World)(hn:ps.length<=1048576)(h:Rd w 1 (.slice a ps.length c) ps.length (ps.flatMap Ac)):
 Calls Tryz.prog 124 #[.slice a ps.length c,.int .i64 z] w fun e w'=>Aj e (z∈ps)/\w'=w:=by
 rcases h.2 with⟨e0,_⟩|⟨g,o,c',e1,hc⟩
 . have:ps=[]:=List.length_eq_zero_iff.1 e0
   subst this;exact(DU a c z w).mono fun e w' h=>⟨⟨false,h.1,by simp⟩,h.2⟩
 . simp only[aF,aw]at e1
   obtain⟨rfl,rfl⟩:=e1
   have hcell:∀j,j<ps.length->w.cell? ⟨g,o+j,none⟩=some (.int .i64 (ps.getD j 0)):=fun j hj=>by
    exact hc j (.int .i64 (ps.getD j 0)) (by rw[Cj];simp[List.getD_eq_getElem?_getD,List.getElem?_eq_getElem hj])
   have hq:=AnyG.slices_Contains_int Tryz.lContains g o ps.length c ps z w lR (by omega) hcell;rw[an lR]at hq;exact hq.mono fun e w' h=>⟨⟨_,h.1,by simp⟩,h.2⟩
structure Ql(w u:World)(v:Bz)(a d:Nat)(nx:Value)(c:MT):Prop where
 body:Ak u w.heap.size v.cells 85
 blk:Ak u (w.heap.size+1) #[.int .i64 (a:Int),.int .i64 ((a+d:Nat):Int),nx] 58
 cert:Ak u (w.heap.size+1+1) #[.int .i64 c.func,.int .i64 c.head,.int .i64 c.counter,.int .u32 c.init] 72
 bel:Below w.heap.size w u
theorem Ql.keep{w u u':World}{v:Bz}{a d:Nat}{nx:Value}{c:MT}(h:Ql w u v a d nx c)(hb:Below u.heap.size u u'):Ql w u' v a d nx c:=⟨h.body.keep hb,h.blk.keep hb,h.cert.keep hb,Ab h.bel lR hb⟩
theorem Hd(v:Bz)(nx:Value)(xs:List MI)(ks:List MC)(m:MB)(c:MT)(w:World)(hn:xs.length<=1024)(hc:Rd w 4 (.slice v.c.a v.c.n v.c.c) xs.length (xs.flatMap MI.cells))(hcap:xs.length<=v.c.c)(hkn:ks.length<=1048576)(hks:Rd w 2 (.slice v.k.a v.k.n v.k.c) ks.length (ks.flatMap MC.cells))
 (hk:∀x∈xs,x.op=1->0<=x.a/\x.a.toNat<ks.length) (hm:∃a e:Nat,m.first=(a:Int)/\m.last=(e:Int)/\a<=e/\e<xs.length):
 Calls Tryz.prog 151 #[.agg v.cells,.agg #[.int .i64 m.first,.int .i64 m.last,nx],.agg #[.int .i64 c.func,.int .i64 c.head,.int .i64 c.counter,.int .u32 c.init]] w fun e w'=>Aj e (AL ks xs m c)/\Below w.heap.size w w':=by
 obtain⟨a,e,m1,m2,hae,hen⟩:=hm;obtain⟨d,rfl⟩:∃d,e=a+d:=⟨e-a,by omega⟩;have HM:Hid (m.first=(a:Int)/\m.last=((a+d:Nat):Int)):=⟨m1,m2⟩
 rw[m1,m2];clear m1 m2 hae;have HK:Hid (Rd w 2 (.slice v.k.a v.k.n v.k.c) ks.length (ks.flatMap MC.cells)/\(∀x∈xs,x.op=1->0<=x.a/\x.a.toNat<ks.length)):=⟨hks,hk⟩
 clear hks hk;rcases hc.2 with⟨q0,_⟩|⟨gc,oc,cc,q1,hcc⟩
 . omega
 simp only[aF]at q1
 have HC:Hid (∀(u:World),Below w.heap.size w u->∀(k:Nat) (x:MI),xs[k]?=some x->u.cell? ⟨gc,oc+k*4,none⟩=some (.int .i64 x.op)/\u.cell? ⟨gc,oc+k*4+1,none⟩=some (.int .i64 x.a)/\u.cell? ⟨gc,oc+k*4+2,none⟩=some (.int .i64 x.b)/\u.cell? ⟨gc,oc+k*4+3,none⟩=some (.int .i64 x.c)):=fun u hu k x hx=>by
  have i0:=Rd.elem MI.cells_length hcc k x hx 0 _ rfl;have i1:=Rd.elem MI.cells_length hcc k x hx 1 _ rfl;have i2:=Rd.elem MI.cells_length hcc k x hx 2 _ rfl;have i3:=Rd.elem MI.cells_length hcc k x hx 3 _ rfl;rw[<-hu.cell (aC i0),aS]at i0;rw[<-hu.cell (aC i1)]at i1;rw[<-hu.cell (aC i2)]at i2;rw[<-hu.cell (aC i3)]at i3;exact⟨i0,i1,i2,i3⟩
 have HQ:Hid (v.c.a=some ⟨gc,oc,none⟩/\v.c.n=xs.length):=⟨q1.1,q1.2.1⟩
 clear hcc hc q1 cc;generalize hcp:v.c.c=cap at hcap;have HCP:Hid (v.c.c=cap):=hcp;clear hcp;have E0:=Ef w v.cells #[.int .i64 (a:Int),.int .i64 ((a+d:Nat):Int),nx] #[.int .i64 c.func,.int .i64 c.head,.int .i64 c.counter,.int .u32 c.init] 85 58 72;have HN:Hid (xs.length<=1024):=hn;generalize hxl:xs.length=n at hn hen hcap HQ;have HXL:Hid (xs.length=n):=hxl;clear hxl;go_enter Tryz.func151,Tryz.ntmps151;go_upto_region 1 with fail
 refine Al (fun u=>Hid (Ql w u v a d nx c)) ⟨E0.1,E0.2.1,E0.2.2.1,E0.2.2.2⟩ ?_;rintro U HE;clear E0;obtain⟨p0,p1,p2,p3,p4,p5,p6,p7,p8,p9,p10,p11,p12,p13,p14⟩:=Cl HE.o.body;simp only[HQ.o.1,HQ.o.2,HCP.o]at p7;clear p0 p1 p2 p3 p4 p5 p6 p8 p9 p10 p11 p12 p13 p14;obtain⟨b0,b1,b2⟩:=BI HE.o.blk;have wr1:IntKind.i64.wrap (((a+d:Nat):Int)+1)=((a+d+1:Nat):Int):=by rw[dI _ ⟨by omega,by omega⟩];omega
 go_upto_region 2 with fail
 have hs1:a+d+1-a=d+1:=by omega
 rw[hs1];generalize ho2:oc+a*4=o2;have hcp0:d+1<=cap-a:=by omega
 generalize cap-a=cp at hcp0⊢;have HO:Hid (oc+a*4=o2):=ho2
 have HC2:Hid (∀(u:World),Below w.heap.size w u->∀(j:Nat) (x:MI),xs[a+j]?=some x->u.cell? ⟨gc,o2+j*4,none⟩=some (.int .i64 x.op)/\u.cell? ⟨gc,o2+j*4+1,none⟩=some (.int .i64 x.a)/\u.cell? ⟨gc,o2+j*4+2,none⟩=some (.int .i64 x.b)/\u.cell? ⟨gc,o2+j*4+3,none⟩=some (.int .i64 x.c)):=fun u hu j x hx=>by
  have e:o2+j*4=oc+(a+j)*4:=by rw[<-HO.o];omega
  rw[e];exact HC.o u hu (a+j) x hx
 clear ho2 HO HC hs1;obtain⟨x0,hx0⟩:∃x,xs[a+d]?=some x:=⟨_,aA (by rw[HXL.o];exact hen)⟩;obtain⟨i0,i1,i2,i3⟩:=HC2.o U HE.o.bel d x0 hx0;have HX0:Hid (xs[a+d]?=some x0):=hx0;clear hx0 p7 b0 b1 b2 wr1;by_cases hj:x0.op=25
 . have HEND:Hid (Eo xs m=((a+d:Nat):Int)-1):=by
    have:m=⟨(a:Int),((a+d:Nat):Int),m.next⟩:=by
     obtain⟨mf,ml,mn⟩:=m;have h1:=HM.o.1;have h2:=HM.o.2;simp only[]at h1 h2;subst h1 h2;rfl
    rw[this];exact JB rfl HX0.o hj
   rw[hj]at i0;go_upto_region 5 with fail
   clear i0 i1 i2 i3;have HXD:Hid (a+d<n):=hen;clear HX0 x0 hj;generalize hLd:d=L at hen HEND HXD hcp0 HE HM⊢;clear hLd;by_cases hL:L<2
   . have HNO:Hid (¬AL ks xs m c):=AL.few (by rw[HEND.o,HM.o.1];omega)
     go_wp2
     go_ret
     exact⟨.no HNO.o,HE.o.bel⟩
   . obtain⟨k,rfl⟩:∃k,L=k+2:=⟨L-2,by omega⟩
     have hLi:¬((k+2:Nat):Int)<2:=by omega
     obtain⟨⟨xo,xa,xb,xc⟩,hx⟩:∃x,xs[a+k]?=some x:=⟨_,aA (by have:=HXL.o;omega)⟩;obtain⟨⟨yo,ya,yb,yc⟩,hy⟩:∃y,xs[a+(k+1)]?=some y:=⟨_,aA (by have:=HXL.o;omega)⟩;have HI:Hid (AL ks xs m c↔xo=1/\yo=3/\ya=c.counter/\∃v,ks[xa.toNat]?=some v/\v.type=3/\v.word=c.init):=AL.iff (k:=a+k) (by rw[HEND.o];omega) (by rw[HM.o.1];omega) hx hy
     obtain⟨x0',x1',x2',x3'⟩:=HC2.o U HE.o.bel k _ hx;obtain⟨y0',y1',y2',y3'⟩:=HC2.o U HE.o.bel (k+1) _ hy;simp only[]at x0' x1' x2' x3' y0' y1' y2' y3';have HX:Hid (⟨xo,xa,xb,xc⟩∈xs):=aE hx;clear hx hy;go_upto_region 7 with fail
     have s1:¬gc=U.heap.size:=bJ (aC x0');have s2:gc<U.heap.size:=aC x0';have s3:¬gc=U.heap.size+1:=by omega
     go_region
     . have q:=Bw U #[.int .i64 xo,.int .i64 xa,.int .i64 xb,.int .i64 xc] #[.int .i64 yo,.int .i64 ya,.int .i64 yb,.int .i64 yc] 60 60
       refine Av (fun u=>Hid (Ql w u v a (k+2) nx c/\Ak u U.heap.size #[.int .i64 xo,.int .i64 xa,.int .i64 xb,.int .i64 xc] 60/\Ak u (U.heap.size+1) #[.int .i64 yo,.int .i64 ya,.int .i64 yb,.int .i64 yc] 60)) ?_ ?_
       . exact⟨HE.o.keep (Ab q.2.2 lR (Ae _)),q.1.keep (Ae _),q.2.1.keep (Ae _)⟩
       clear q;rintro U3 HU;clear s1 s2 s3 x0' x1' x2' x3' y0' y1' y2' y3';obtain⟨x0',x1',x2',x3'⟩:=Bq HU.o.2.1;obtain⟨y0',y1',y2',y3'⟩:=Bq HU.o.2.2;have HBF:Hid (Below w.heap.size w U3):=HU.o.1.bel;by_cases z1:xo=1
       case neg=>
        have z1':(xo==1)=false:=by simp[z1]
        have z1'':decide (xo=1)=false:=by simp[z1]
        go_wp2_with fail
        go_quiet (fail)
        go_wp2
        go_ret
        exact⟨.no (fun e=>z1 (HI.o.1 e).1),Ab HBF.o lR (Af _ _ _)⟩
       rw[z1]at x0';obtain⟨hq0,hq1⟩:=HK.o.2 _ HX.o z1;simp only[]at hq0 hq1;obtain⟨q',hq⟩:=aT hq0;rw[hq]at x1' hq1;rw[aG]at hq1;have HV:Hid (xa=(q':Int)/\xo=1):=⟨hq,z1⟩
       obtain⟨⟨vt,vw⟩,hvv⟩:∃vv,ks[q']?=some vv:=⟨_,aA hq1⟩;rcases HK.o.1.2 with⟨e0,_⟩|⟨gk,ok,ck,e1,hc2⟩
       . omega
       simp only[aF]at e1;have v0:=Rd.elem MC.cells_length hc2 q' _ hvv 0 _ rfl;have v1:=Rd.elem MC.cells_length hc2 q' _ hvv 1 _ rfl;rw[<-HBF.o.cell (aC v0),aS]at v0;rw[<-HBF.o.cell (aC v1)]at v1;simp only[]at v0 v1;have HVV:Hid (ks[q']?=some ⟨vt,vw⟩):=hvv;obtain⟨p0,p1,p2,p3,p4,p5,p6,p7,p8,p9,p10,p11,p12,p13,p14⟩:=Cl HU.o.1.body;simp only[e1.1,e1.2.1]at p1;clear p0 p2 p3 p4 p5 p6 p7 p8 p9 p10 p11 p12 p13 p14 hc2 hvv hq hq0 e1 z1;obtain⟨c0,c1,c2,c3⟩:=Bq HU.o.1.cert;have hqI:(q':Int)<(ks.length:Int):=by omega
       by_cases zt:vt=3
       case neg=>
        have zt':(vt==3)=false:=by simp[zt]
        have zt'':decide (vt=3)=false:=by simp[zt]
        have HNO:Hid (¬AL ks xs m c):=fun e=>by
         obtain⟨v',h1,h2,_⟩:=(HI.o.1 e).2.2.2;rw[HV.o.1,aG,HVV.o]at h1;cases h1
         exact zt h2
        go_wp2_with fail
        go_quiet (fail)
        go_wp2
        go_ret
        exact⟨.no HNO.o,Ab HBF.o lR (Af _ _ _)⟩
       by_cases zw:vw=c.init
       case neg=>
        have zw':(vw==c.init)=false:=by simp[zw]
        have zw'':decide (vw=c.init)=false:=by simp[zw]
        have HNO:Hid (¬AL ks xs m c):=fun e=>by
         obtain⟨v',h1,_,h2⟩:=(HI.o.1 e).2.2.2;rw[HV.o.1,aG,HVV.o]at h1;cases h1
         exact zw h2
        rw[zt]at v0;go_wp2_with fail
        go_quiet (fail)
        go_wp2
        go_ret
        exact⟨.no HNO.o,Ab HBF.o lR (Af _ _ _)⟩
       have HVY:Hid (∃v,ks[xa.toNat]?=some v/\v.type=3/\v.word=c.init):=⟨⟨vt,vw⟩,by rw[HV.o.1,aG];exact HVV.o,zt,zw⟩
       rw[zt]at v0;rw[zw]at v1;by_cases z3:yo=3
       case neg=>
        have z3':(yo==3)=false:=by simp[z3]
        have z3'':decide (yo=3)=false:=by simp[z3]
        go_wp2_with fail
        go_quiet (fail)
        go_wp2
        go_ret
        exact⟨.no (fun e=>z3 (HI.o.1 e).2.1),Ab HBF.o lR (Af _ _ _)⟩
       rw[z3]at y0';by_cases z4:ya=c.counter
       case neg=>
        have z4':(ya==c.counter)=false:=by simp[z4]
        have z4'':decide (ya=c.counter)=false:=by simp[z4]
        go_wp2_with fail
        go_quiet (fail)
        go_wp2
        go_ret
        exact⟨.no (fun e=>z4 (HI.o.1 e).2.2.1),Ab HBF.o lR (Af _ _ _)⟩
       have HY:Hid (AL ks xs m c):=HI.o.2 ⟨HV.o.2,z3,z4,HVY.o⟩;rw[z4]at y1';go_wp2_with fail
       go_quiet (fail)
       go_wp2
       go_ret
       refine⟨?_,Ab HBF.o lR (Af _ _ _)⟩;exact .yes HY.o
     . have q:=Bw U #[.int .i64 yo,.int .i64 ya,.int .i64 yb,.int .i64 yc] #[.int .i64 xo,.int .i64 xa,.int .i64 xb,.int .i64 xc] 60 60
       refine Av (fun u=>Hid (Ql w u v a (k+2) nx c/\Ak u (U.heap.size+1) #[.int .i64 xo,.int .i64 xa,.int .i64 xb,.int .i64 xc] 60/\Ak u U.heap.size #[.int .i64 yo,.int .i64 ya,.int .i64 yb,.int .i64 yc] 60)) ?_ ?_
       . exact⟨HE.o.keep (Ab q.2.2 lR (Ae _)),q.2.1.keep (Ae _),q.1.keep (Ae _)⟩
       clear q;rintro U3 HU;clear s1 s2 s3 x0' x1' x2' x3' y0' y1' y2' y3';obtain⟨x0',x1',x2',x3'⟩:=Bq HU.o.2.1;obtain⟨y0',y1',y2',y3'⟩:=Bq HU.o.2.2;have HBF:Hid (Below w.heap.size w U3):=HU.o.1.bel;by_cases z1:xo=1
       case neg=>
        have z1':(xo==1)=false:=by simp[z1]
        have z1'':decide (xo=1)=false:=by simp[z1]
        go_wp2_with fail
        go_quiet (fail)
        go_wp2
        go_ret
        exact⟨.no (fun e=>z1 (HI.o.1 e).1),Ab HBF.o lR (Af _ _ _)⟩
       rw[z1]at x0';obtain⟨hq0,hq1⟩:=HK.o.2 _ HX.o z1;simp only[]at hq0 hq1;obtain⟨q',hq⟩:=aT hq0;rw[hq]at x1' hq1;rw[aG]at hq1;have HV:Hid (xa=(q':Int)/\xo=1):=⟨hq,z1⟩
       obtain⟨⟨vt,vw⟩,hvv⟩:∃vv,ks[q']?=some vv:=⟨_,aA hq1⟩;rcases HK.o.1.2 with⟨e0,_⟩|⟨gk,ok,ck,e1,hc2⟩
       . omega
       simp only[aF]at e1;have v0:=Rd.elem MC.cells_length hc2 q' _ hvv 0 _ rfl;have v1:=Rd.elem MC.cells_length hc2 q' _ hvv 1 _ rfl;rw[<-HBF.o.cell (aC v0),aS]at v0;rw[<-HBF.o.cell (aC v1)]at v1;simp only[]at v0 v1;have HVV:Hid (ks[q']?=some ⟨vt,vw⟩):=hvv;obtain⟨p0,p1,p2,p3,p4,p5,p6,p7,p8,p9,p10,p11,p12,p13,p14⟩:=Cl HU.o.1.body;simp only[e1.1,e1.2.1]at p1;clear p0 p2 p3 p4 p5 p6 p7 p8 p9 p10 p11 p12 p13 p14 hc2 hvv hq hq0 e1 z1;obtain⟨c0,c1,c2,c3⟩:=Bq HU.o.1.cert;have hqI:(q':Int)<(ks.length:Int):=by omega
       by_cases zt:vt=3
       case neg=>
        have zt':(vt==3)=false:=by simp[zt]
        have zt'':decide (vt=3)=false:=by simp[zt]
        have HNO:Hid (¬AL ks xs m c):=fun e=>by
         obtain⟨v',h1,h2,_⟩:=(HI.o.1 e).2.2.2;rw[HV.o.1,aG,HVV.o]at h1;cases h1
         exact zt h2
        go_wp2_with fail
        go_quiet (fail)
        go_wp2
        go_ret
        exact⟨.no HNO.o,Ab HBF.o lR (Af _ _ _)⟩
       by_cases zw:vw=c.init
       case neg=>
        have zw':(vw==c.init)=false:=by simp[zw]
        have zw'':decide (vw=c.init)=false:=by simp[zw]
        have HNO:Hid (¬AL ks xs m c):=fun e=>by
         obtain⟨v',h1,_,h2⟩:=(HI.o.1 e).2.2.2;rw[HV.o.1,aG,HVV.o]at h1;cases h1
         exact zw h2
        rw[zt]at v0;go_wp2_with fail
        go_quiet (fail)
        go_wp2
        go_ret
        exact⟨.no HNO.o,Ab HBF.o lR (Af _ _ _)⟩
       have HVY:Hid (∃v,ks[xa.toNat]?=some v/\v.type=3/\v.word=c.init):=⟨⟨vt,vw⟩,by rw[HV.o.1,aG];exact HVV.o,zt,zw⟩
       rw[zt]at v0;rw[zw]at v1;by_cases z3:yo=3
       case neg=>
        have z3':(yo==3)=false:=by simp[z3]
        have z3'':decide (yo=3)=false:=by simp[z3]
        go_wp2_with fail
        go_quiet (fail)
        go_wp2
        go_ret
        exact⟨.no (fun e=>z3 (HI.o.1 e).2.1),Ab HBF.o lR (Af _ _ _)⟩
       rw[z3]at y0';by_cases z4:ya=c.counter
       case neg=>
        have z4':(ya==c.counter)=false:=by simp[z4]
        have z4'':decide (ya=c.counter)=false:=by simp[z4]
        go_wp2_with fail
        go_quiet (fail)
        go_wp2
        go_ret
        exact⟨.no (fun e=>z4 (HI.o.1 e).2.2.1),Ab HBF.o lR (Af _ _ _)⟩
       have HY:Hid (AL ks xs m c):=HI.o.2 ⟨HV.o.2,z3,z4,HVY.o⟩;rw[z4]at y1';go_wp2_with fail
       go_quiet (fail)
       go_wp2
       go_ret
       refine⟨?_,Ab HBF.o lR (Af _ _ _)⟩;exact .yes HY.o
 . have HEND:Hid (Eo xs m=((a+d:Nat):Int)):=by
    have:m=⟨(a:Int),((a+d:Nat):Int),m.next⟩:=by
     obtain⟨mf,ml,mn⟩:=m;have h1:=HM.o.1;have h2:=HM.o.2;simp only[]at h1 h2;subst h1 h2;rfl
    rw[this];exact JA rfl HX0.o hj
   go_upto_region 5 with fail
   clear i0 i1 i2 i3;have HXD:Hid (a+d<n):=hen;clear HX0 hj;by_cases hL:d<1
   . have HNO:Hid (¬AL ks xs m c):=AL.few (by rw[HEND.o,HM.o.1];omega)
     go_wp2
     go_ret
     exact⟨.no HNO.o,HE.o.bel⟩
   . obtain⟨k,rfl⟩:∃k,d=k+1:=⟨d-1,by omega⟩
     have hLi:¬((k+1+1:Nat):Int)<2:=by omega
     obtain⟨⟨xo,xa,xb,xc⟩,hx⟩:∃x,xs[a+k]?=some x:=⟨_,aA (by have:=HXL.o;omega)⟩;obtain⟨⟨yo,ya,yb,yc⟩,hy⟩:∃y,xs[a+(k+1)]?=some y:=⟨_,aA (by have:=HXL.o;omega)⟩;have HI:Hid (AL ks xs m c↔xo=1/\yo=3/\ya=c.counter/\∃v,ks[xa.toNat]?=some v/\v.type=3/\v.word=c.init):=AL.iff (k:=a+k) (by rw[HEND.o];omega) (by rw[HM.o.1];omega) hx hy
     obtain⟨x0',x1',x2',x3'⟩:=HC2.o U HE.o.bel k _ hx;obtain⟨y0',y1',y2',y3'⟩:=HC2.o U HE.o.bel (k+1) _ hy;simp only[]at x0' x1' x2' x3' y0' y1' y2' y3';have HX:Hid (⟨xo,xa,xb,xc⟩∈xs):=aE hx;clear hx hy;go_upto_region 7 with fail
     have s1:¬gc=U.heap.size:=bJ (aC x0');have s2:gc<U.heap.size:=aC x0';have s3:¬gc=U.heap.size+1:=by omega
     go_region
     . have q:=Bw U #[.int .i64 xo,.int .i64 xa,.int .i64 xb,.int .i64 xc] #[.int .i64 yo,.int .i64 ya,.int .i64 yb,.int .i64 yc] 60 60
       refine Av (fun u=>Hid (Ql w u v a (k+1) nx c/\Ak u U.heap.size #[.int .i64 xo,.int .i64 xa,.int .i64 xb,.int .i64 xc] 60/\Ak u (U.heap.size+1) #[.int .i64 yo,.int .i64 ya,.int .i64 yb,.int .i64 yc] 60)) ?_ ?_
       . exact⟨HE.o.keep (Ab q.2.2 lR (Ae _)),q.1.keep (Ae _),q.2.1.keep (Ae _)⟩
       clear q;rintro U3 HU;clear s1 s2 s3 x0' x1' x2' x3' y0' y1' y2' y3';obtain⟨x0',x1',x2',x3'⟩:=Bq HU.o.2.1;obtain⟨y0',y1',y2',y3'⟩:=Bq HU.o.2.2;have HBF:Hid (Below w.heap.size w U3):=HU.o.1.bel;by_cases z1:xo=1
       case neg=>
        have z1':(xo==1)=false:=by simp[z1]
        have z1'':decide (xo=1)=false:=by simp[z1]
        go_wp2_with fail
        go_quiet (fail)
        go_wp2
        go_ret
        exact⟨.no (fun e=>z1 (HI.o.1 e).1),Ab HBF.o lR (Af _ _ _)⟩
       rw[z1]at x0';obtain⟨hq0,hq1⟩:=HK.o.2 _ HX.o z1;simp only[]at hq0 hq1;obtain⟨q',hq⟩:=aT hq0;rw[hq]at x1' hq1;rw[aG]at hq1;have HV:Hid (xa=(q':Int)/\xo=1):=⟨hq,z1⟩
       obtain⟨⟨vt,vw⟩,hvv⟩:∃vv,ks[q']?=some vv:=⟨_,aA hq1⟩;rcases HK.o.1.2 with⟨e0,_⟩|⟨gk,ok,ck,e1,hc2⟩
       . omega
       simp only[aF]at e1;have v0:=Rd.elem MC.cells_length hc2 q' _ hvv 0 _ rfl;have v1:=Rd.elem MC.cells_length hc2 q' _ hvv 1 _ rfl;rw[<-HBF.o.cell (aC v0),aS]at v0;rw[<-HBF.o.cell (aC v1)]at v1;simp only[]at v0 v1;have HVV:Hid (ks[q']?=some ⟨vt,vw⟩):=hvv;obtain⟨p0,p1,p2,p3,p4,p5,p6,p7,p8,p9,p10,p11,p12,p13,p14⟩:=Cl HU.o.1.body;simp only[e1.1,e1.2.1]at p1;clear p0 p2 p3 p4 p5 p6 p7 p8 p9 p10 p11 p12 p13 p14 hc2 hvv hq hq0 e1 z1;obtain⟨c0,c1,c2,c3⟩:=Bq HU.o.1.cert;have hqI:(q':Int)<(ks.length:Int):=by omega
       by_cases zt:vt=3
       case neg=>
        have zt':(vt==3)=false:=by simp[zt]
        have zt'':decide (vt=3)=false:=by simp[zt]
        have HNO:Hid (¬AL ks xs m c):=fun e=>by
         obtain⟨v',h1,h2,_⟩:=(HI.o.1 e).2.2.2;rw[HV.o.1,aG,HVV.o]at h1;cases h1
         exact zt h2
        go_wp2_with fail
        go_quiet (fail)
        go_wp2
        go_ret
        exact⟨.no HNO.o,Ab HBF.o lR (Af _ _ _)⟩
       by_cases zw:vw=c.init
       case neg=>
        have zw':(vw==c.init)=false:=by simp[zw]
        have zw'':decide (vw=c.init)=false:=by simp[zw]
        have HNO:Hid (¬AL ks xs m c):=fun e=>by
         obtain⟨v',h1,_,h2⟩:=(HI.o.1 e).2.2.2;rw[HV.o.1,aG,HVV.o]at h1;cases h1
         exact zw h2
        rw[zt]at v0;go_wp2_with fail
        go_quiet (fail)
        go_wp2
        go_ret
        exact⟨.no HNO.o,Ab HBF.o lR (Af _ _ _)⟩
       have HVY:Hid (∃v,ks[xa.toNat]?=some v/\v.type=3/\v.word=c.init):=⟨⟨vt,vw⟩,by rw[HV.o.1,aG];exact HVV.o,zt,zw⟩
       rw[zt]at v0;rw[zw]at v1;by_cases z3:yo=3
       case neg=>
        have z3':(yo==3)=false:=by simp[z3]
        have z3'':decide (yo=3)=false:=by simp[z3]
        go_wp2_with fail
        go_quiet (fail)
        go_wp2
        go_ret
        exact⟨.no (fun e=>z3 (HI.o.1 e).2.1),Ab HBF.o lR (Af _ _ _)⟩
       rw[z3]at y0';by_cases z4:ya=c.counter
       case neg=>
        have z4':(ya==c.counter)=false:=by simp[z4]
        have z4'':decide (ya=c.counter)=false:=by simp[z4]
        go_wp2_with fail
        go_quiet (fail)
        go_wp2
        go_ret
        exact⟨.no (fun e=>z4 (HI.o.1 e).2.2.1),Ab HBF.o lR (Af _ _ _)⟩
       have HY:Hid (AL ks xs m c):=HI.o.2 ⟨HV.o.2,z3,z4,HVY.o⟩;rw[z4]at y1';go_wp2_with fail
       go_quiet (fail)
       go_wp2
       go_ret
       refine⟨?_,Ab HBF.o lR (Af _ _ _)⟩;exact .yes HY.o
     . have q:=Bw U #[.int .i64 yo,.int .i64 ya,.int .i64 yb,.int .i64 yc] #[.int .i64 xo,.int .i64 xa,.int .i64 xb,.int .i64 xc] 60 60
       refine Av (fun u=>Hid (Ql w u v a (k+1) nx c/\Ak u (U.heap.size+1) #[.int .i64 xo,.int .i64 xa,.int .i64 xb,.int .i64 xc] 60/\Ak u U.heap.size #[.int .i64 yo,.int .i64 ya,.int .i64 yb,.int .i64 yc] 60)) ?_ ?_
       . exact⟨HE.o.keep (Ab q.2.2 lR (Ae _)),q.2.1.keep (Ae _),q.1.keep (Ae _)⟩
       clear q;rintro U3 HU;clear s1 s2 s3 x0' x1' x2' x3' y0' y1' y2' y3';obtain⟨x0',x1',x2',x3'⟩:=Bq HU.o.2.1;obtain⟨y0',y1',y2',y3'⟩:=Bq HU.o.2.2;have HBF:Hid (Below w.heap.size w U3):=HU.o.1.bel;by_cases z1:xo=1
       case neg=>
        have z1':(xo==1)=false:=by simp[z1]
        have z1'':decide (xo=1)=false:=by simp[z1]
        go_wp2_with fail
        go_quiet (fail)
        go_wp2
        go_ret
        exact⟨.no (fun e=>z1 (HI.o.1 e).1),Ab HBF.o lR (Af _ _ _)⟩
       rw[z1]at x0';obtain⟨hq0,hq1⟩:=HK.o.2 _ HX.o z1;simp only[]at hq0 hq1;obtain⟨q',hq⟩:=aT hq0;rw[hq]at x1' hq1;rw[aG]at hq1;have HV:Hid (xa=(q':Int)/\xo=1):=⟨hq,z1⟩
       obtain⟨⟨vt,vw⟩,hvv⟩:∃vv,ks[q']?=some vv:=⟨_,aA hq1⟩;rcases HK.o.1.2 with⟨e0,_⟩|⟨gk,ok,ck,e1,hc2⟩
       . omega
       simp only[aF]at e1;have v0:=Rd.elem MC.cells_length hc2 q' _ hvv 0 _ rfl;have v1:=Rd.elem MC.cells_length hc2 q' _ hvv 1 _ rfl;rw[<-HBF.o.cell (aC v0),aS]at v0;rw[<-HBF.o.cell (aC v1)]at v1;simp only[]at v0 v1;have HVV:Hid (ks[q']?=some ⟨vt,vw⟩):=hvv;obtain⟨p0,p1,p2,p3,p4,p5,p6,p7,p8,p9,p10,p11,p12,p13,p14⟩:=Cl HU.o.1.body;simp only[e1.1,e1.2.1]at p1;clear p0 p2 p3 p4 p5 p6 p7 p8 p9 p10 p11 p12 p13 p14 hc2 hvv hq hq0 e1 z1;obtain⟨c0,c1,c2,c3⟩:=Bq HU.o.1.cert;have hqI:(q':Int)<(ks.length:Int):=by omega
       by_cases zt:vt=3
       case neg=>
        have zt':(vt==3)=false:=by simp[zt]
        have zt'':decide (vt=3)=false:=by simp[zt]
        have HNO:Hid (¬AL ks xs m c):=fun e=>by
         obtain⟨v',h1,h2,_⟩:=(HI.o.1 e).2.2.2;rw[HV.o.1,aG,HVV.o]at h1;cases h1
         exact zt h2
        go_wp2_with fail
        go_quiet (fail)
        go_wp2
        go_ret
        exact⟨.no HNO.o,Ab HBF.o lR (Af _ _ _)⟩
       by_cases zw:vw=c.init
       case neg=>
        have zw':(vw==c.init)=false:=by simp[zw]
        have zw'':decide (vw=c.init)=false:=by simp[zw]
        have HNO:Hid (¬AL ks xs m c):=fun e=>by
         obtain⟨v',h1,_,h2⟩:=(HI.o.1 e).2.2.2;rw[HV.o.1,aG,HVV.o]at h1;cases h1
         exact zw h2
        rw[zt]at v0;go_wp2_with fail
        go_quiet (fail)
        go_wp2
        go_ret
        exact⟨.no HNO.o,Ab HBF.o lR (Af _ _ _)⟩
       have HVY:Hid (∃v,ks[xa.toNat]?=some v/\v.type=3/\v.word=c.init):=⟨⟨vt,vw⟩,by rw[HV.o.1,aG];exact HVV.o,zt,zw⟩
       rw[zt]at v0;rw[zw]at v1;by_cases z3:yo=3
       case neg=>
        have z3':(yo==3)=false:=by simp[z3]
        have z3'':decide (yo=3)=false:=by simp[z3]
        go_wp2_with fail
        go_quiet (fail)
        go_wp2
        go_ret
        exact⟨.no (fun e=>z3 (HI.o.1 e).2.1),Ab HBF.o lR (Af _ _ _)⟩
       rw[z3]at y0';by_cases z4:ya=c.counter
       case neg=>
        have z4':(ya==c.counter)=false:=by simp[z4]
        have z4'':decide (ya=c.counter)=false:=by simp[z4]
        go_wp2_with fail
        go_quiet (fail)
        go_wp2
        go_ret
        exact⟨.no (fun e=>z4 (HI.o.1 e).2.2.1),Ab HBF.o lR (Af _ _ _)⟩
       have HY:Hid (AL ks xs m c):=HI.o.2 ⟨HV.o.2,z3,z4,HVY.o⟩;rw[z4]at y1';go_wp2_with fail
       go_quiet (fail)
       go_wp2
       go_ret
       refine⟨?_,Ab HBF.o lR (Af _ _ _)⟩;exact .yes HY.o
end Go.Proofs.YtdipfjmlfbdkdaaGreat
