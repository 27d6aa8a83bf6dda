import Derived.Test.YtdipfjmlfbdkdaaGreatFc18
import Derived.BigRegion
namespace Go.Proofs.YtdipfjmlfbdkdaaGreat
open Go.ChangeShapes Go.WideShapes Go.ChangeAt Go.RowKit
set_option linter.unusedVariables false
set_option maxHeartbeats 4000000
set_option maxRecDepth 100000
theorem Bq{w:World}{b:Nat}{t:TypeId}{a0 a1 a2 a3:Value}(h:Ak w b #[a0,a1,a2,a3] t):w.cell? ⟨b,0,none⟩=some a0/\w.cell? ⟨b,1,none⟩=some a1/\w.cell? ⟨b,2,none⟩=some a2/\w.cell? ⟨b,3,none⟩=some a3:=⟨h.cell 0,h.cell 1,h.cell 2,h.cell 3⟩
theorem AL.few{ks:List MC}{xs:List MI}{m:MB}{c:MT}(h:Eo xs m-1<m.first):¬AL ks xs m c:=fun e=>by have:=e.1;omega
theorem AL.iff{ks:List MC}{xs:List MI}{m:MB}{c:MT}{k:Nat}{x y:MI}(he:Eo xs m=((k+1:Nat):Int))(hf:m.first<=(k:Int))(hx:xs[k]?=some x)(hy:xs[k+1]?=some y):AL ks xs m c↔x.op=1/\y.op=3/\y.a=c.counter/\∃v,ks[x.a.toNat]?=some v/\v.type=3/\v.word=c.init:=by
 have e1:(((k+1:Nat):Int)-1).toNat=k:=by omega
 unfold AL;rw[he,e1,aG,hx,hy];constructor
 . rintro⟨_,x',y',v,h1,h2,h3,h4,h5,h6,h7⟩
   cases h1
   cases h2
   exact⟨h3,h4,h5,v,h6,h7⟩
 . rintro⟨h3,h4,h5,v,h6,h7⟩
   exact⟨by omega,x,y,v,rfl,rfl,h3,h4,h5,h6,h7⟩
theorem JB{xs:List MI}{m:MB}{x:MI}{e:Nat}(h:m.last=(e:Int))(hx:xs[e]?=some x)(q:x.op=25):Eo xs m=(e:Int)-1:=by
 unfold Eo;rw[h,aG,hx];simp only[q,if_true]
theorem JA{xs:List MI}{m:MB}{x:MI}{e:Nat}(h:m.last=(e:Int))(hx:xs[e]?=some x)(q:¬x.op=25):Eo xs m=(e:Int):=by
 unfold Eo;rw[h,aG,hx];simp only[q,if_false]
theorem Iv(v:VP)(p:MP)(s vn:Value)(xs:List MI)(m:MB)(c:MT)(w:World)(hs:p.small)(h:Dg w v p)(hn:xs.length<=1048576)(hr:Rd w 4 s xs.length (xs.flatMap MI.cells))
 (hk:∀x∈xs,x.op=1->0<=x.a/\x.a.toNat<p.consts.length) (hm:∃a e:Nat,m.first=(a:Int)/\m.last=(e:Int)/\a<=e/\e<xs.length):
 Calls Tryz.prog 50 #[.agg #[v.r,v.k,v.f,v.t],s,.agg #[.int .i64 m.first,.int .i64 m.last,vn],.agg #[.int .i64 c.func,.int .i64 c.head,.int .i64 c.counter,.int .u32 c.init]] w fun e w'=>Aj e (AL p.consts xs m c)/\Below w.heap.size w w':=by
 obtain⟨a,e,m1,m2,hae,hen⟩:=hm
 have HS:Hid (Eo xs m=Eo xs ⟨a,e,m.next⟩/\(AL p.consts xs m c↔AL p.consts xs ⟨a,e,m.next⟩ c)):=by
  obtain⟨mf,ml,mn⟩:=m;simp only[]at m1 m2;subst m1 m2;exact⟨rfl,Iff.rfl⟩
 obtain⟨vr,vk,vf,vt⟩:=v;have HK:Hid (Rd w 2 vk p.consts.length (p.consts.flatMap MC.cells)/\(∀x∈xs,x.op=1->0<=x.a/\x.a.toNat<p.consts.length)):=⟨h.consts,hk⟩
 have hkn:=hs.consts;obtain⟨a1,c1,e1⟩:∃a c,vk=.slice a p.consts.length c:=h.consts.is_slice;obtain⟨a2,c2,rfl⟩:=hr.is_slice;subst e1;have HR:Hid (Rd w 4 (.slice a2 xs.length c2) xs.length (xs.flatMap MI.cells)):=hr;clear h hs hr hk;rw[m1,m2];have E0:=Ef w #[vr,.slice a1 p.consts.length c1,vf,vt] #[.int .i64 (a:Int),.int .i64 (e:Int),vn] #[.int .i64 c.func,.int .i64 c.head,.int .i64 c.counter,.int .u32 c.init] 35 58 72;have HM0:m.first=(a:Int):=m1;clear m1 m2;generalize hln:xs.length=n at hn hen HR⊢;have HN:Hid (xs.length=n):=hln;generalize hlk:p.consts.length=nk at hkn HK E0⊢;have HNK:Hid (p.consts.length=nk):=hlk;clear hln hlk;go_enter Tryz.func50,Tryz.ntmps50;go_upto_region 1 with fail
 refine Al (fun u=>Hid (Ak u w.heap.size #[vr,.slice a1 nk c1,vf,vt] 35/\Ak u (w.heap.size+1) #[.int .i64 (a:Int),.int .i64 (e:Int),vn] 58/\Ak u (w.heap.size+1+1) #[.int .i64 c.func,.int .i64 c.head,.int .i64 c.counter,.int .u32 c.init] 72/\Below w.heap.size w u)) E0 ?_
 rintro U HE;clear E0;obtain⟨x0,hx0⟩:∃x,xs[e]?=some x:=⟨_,aA (by rw[HN.o];exact hen)⟩;obtain⟨b0,b1,b2⟩:=BI HE.o.2.1;have HX0:Hid (xs[e]?=some x0):=hx0;rcases HR.o.2 with⟨e0,_⟩|⟨g,o,cc,e1,hc1⟩
 . omega
 simp only[aF,aw]at e1;obtain⟨rfl,rfl⟩:=e1
 have HC:Hid (∀(k:Nat) (x:MI),xs[k]?=some x->U.cell? ⟨g,o+k*4,none⟩=some (.int .i64 x.op)/\U.cell? ⟨g,o+k*4+1,none⟩=some (.int .i64 x.a)):=fun k x hx=>by
  have i0:=Rd.elem MI.cells_length hc1 k x hx 0 _ rfl;have i1:=Rd.elem MI.cells_length hc1 k x hx 1 _ rfl;rw[<-HE.o.2.2.2.cell (aC i0),aS]at i0;rw[<-HE.o.2.2.2.cell (aC i1)]at i1;exact⟨i0,i1⟩
 clear hc1 hx0;obtain⟨i0,i1⟩:=HC.o e x0 HX0.o;have HM:Hid (m.first=(a:Int)):=HM0;by_cases q:x0.op=25
 . have HQ:Hid (Eo xs m=(e:Int)-1):=HS.o.1.trans (JB rfl HX0.o q)
   rw[q]at i0;clear q;by_cases f:e<a+2
   . have w1:IntKind.i64.wrap ((e:Int)-1)=(e:Int)-1:=dI _ ⟨by omega,by omega⟩
     have w2:IntKind.i64.wrap ((e:Int)-1-1)=(e:Int)-1-1:=dI _ ⟨by omega,by omega⟩;have w3:IntKind.i64.wrap ((e:Int)-2)=(e:Int)-2:=dI _ ⟨by omega,by omega⟩;have f1:(e:Int)-1-1<(a:Int):=by omega
     have f2:(e:Int)-2<(a:Int):=by omega
     go_wp2_with fail
     go_quiet (fail)
     go_wp2
     go_ret
     exact⟨.no (AL.few (by rw[HQ.o,HM.o];omega)),Ab HE.o.2.2.2 lR (Af _ _ _)⟩
   . obtain⟨k,hk⟩:∃k,e=k+1+1:=⟨e-2,by omega⟩
     obtain⟨d,hd⟩:∃d,d=k+1:=⟨_,rfl⟩;have HD:Hid (d=k+1):=hd;have HQ:Hid (Eo xs m=((k+1:Nat):Int)):=by have:=HQ.o;show Eo xs m=_;omega
     have f1:¬(k:Int)<(a:Int):=by omega
     have f3:¬k<a:=by omega
     have f4:d<n:=by omega
     have f5:k<n:=by omega
     have w1:IntKind.i64.wrap ((e:Int)-1)=(d:Int):=by rw[dI _ ⟨by omega,by omega⟩];omega
     have wk:IntKind.i64.wrap ((d:Int)-1)=(k:Int):=by rw[dI _ ⟨by omega,by omega⟩];omega
     clear hk hd f;obtain⟨y,hy⟩:∃y,xs[d]?=some y:=⟨_,aA (by rw[HN.o];omega)⟩;obtain⟨x,hx⟩:∃x,xs[k]?=some x:=⟨_,aA (by rw[HN.o];omega)⟩;have HI:Hid (AL p.consts xs m c↔x.op=1/\y.op=3/\y.a=c.counter/\∃v,p.consts[x.a.toNat]?=some v/\v.type=3/\v.word=c.init):=AL.iff (by first|exact HQ.o|(rw[HQ.o,HD.o])) (by rw[HM.o];omega) hx (by rw[<-HD.o];exact hy)
     obtain⟨y0,y1⟩:=HC.o d y hy;obtain⟨x0',x1'⟩:=HC.o k x hx;have HX:Hid (x∈xs):=aE hx;clear hx hy;obtain⟨t0,t1,t2,t3⟩:=Bq HE.o.2.2.1;by_cases z1:y.op=3
     case neg=>
      go_wp2_with fail
      go_quiet (fail)
      go_wp2
      go_ret
      exact⟨.no (fun e=>z1 (HI.o.1 e).2.1),Ab HE.o.2.2.2 lR (Af _ _ _)⟩
     case pos=>
      rw[z1]at y0;have HZ1:Hid (y.op=3):=z1;clear z1;by_cases z2:y.a=c.counter
      case neg=>
       go_wp2_with fail
       go_quiet (fail)
       go_wp2
       go_ret
       exact⟨.no (fun e=>z2 (HI.o.1 e).2.2.1),Ab HE.o.2.2.2 lR (Af _ _ _)⟩
      case pos=>
       rw[z2]at y1;have HZ2:Hid (y.a=c.counter):=z2;clear z2;by_cases z3:x.op=1
       case neg=>
        go_wp2_with fail
        go_quiet (fail)
        go_wp2
        go_ret
        exact⟨.no (fun e=>z3 (HI.o.1 e).1),Ab HE.o.2.2.2 lR (Af _ _ _)⟩
       case pos=>
        rw[z3]at x0';have HZ3:Hid (x.op=1):=z3;clear z3;go_wp2_with fail
        go_quiet (fail)
        go_wp2_with fail
        obtain⟨hq0,hq1⟩:=HK.o.2 x HX.o HZ3.o;obtain⟨q',hq⟩:=aT hq0;rw[hq]at x1' hq1;have HV:Hid (x.a=(q':Int)):=hq;rw[aG]at hq1;obtain⟨vv,hvv⟩:∃vv,p.consts[q']?=some vv:=⟨_,aA (by rw[HNK.o];exact hq1)⟩;rcases HK.o.1.2 with⟨e0,_⟩|⟨gk,ok,ck,e1,hc2⟩
        . omega
        simp only[aF,aw]at e1;obtain⟨rfl,rfl⟩:=e1;have v0:=Rd.elem MC.cells_length hc2 q' vv hvv 0 _ rfl;have v1:=Rd.elem MC.cells_length hc2 q' vv hvv 1 _ rfl;rw[<-HE.o.2.2.2.cell (aC v0),aS]at v0;rw[<-HE.o.2.2.2.cell (aC v1)]at v1;have HVV:Hid (p.consts[q']?=some vv):=hvv;clear hc2 hvv hq hq0;refine Al (fun u=>Hid (Ak u w.heap.size #[vr,.slice (some ⟨gk,ok,none⟩) nk c1,vf,vt] 35/\Ak u (w.heap.size+1+1) #[.int .i64 c.func,.int .i64 c.head,.int .i64 c.counter,.int .u32 c.init] 72/\Below w.heap.size w u/\u.cell? ⟨g,o+k*4+1,none⟩=some (.int .i64 (q':Int))/\u.cell? ⟨gk,ok+q'*2,none⟩=some (.int .i64 vv.type)/\u.cell? ⟨gk,ok+q'*2+1,none⟩=some (.int .u32 vv.word))) ⟨HE.o.1.keep (Af _ _ _),HE.o.2.2.1.keep (Af _ _ _),Ab HE.o.2.2.2 lR (Af _ _ _),by simpa using x1',by simpa using v0,by simpa using v1⟩ ?_
        rintro U2 HU;clear v0 v1 x1' x0' y0 y1 t0 t1 t2 t3 b0 b1 b2 i0 i1;obtain⟨r0,r1,r2,r3⟩:=Bq HU.o.1;obtain⟨t0,t1,t2,t3⟩:=Bq HU.o.2.1;obtain⟨x1',v0,v1⟩:=HU.o.2.2.2;have n1:¬g=U2.heap.size:=bJ (aC x1');have n2:g<U2.heap.size:=aC x1';have n3:¬gk=U2.heap.size:=bJ (aC v0);have n4:gk<U2.heap.size:=aC v0;have n5:¬w.heap.size=U2.heap.size:=bJ (aC r0);have n6:w.heap.size<U2.heap.size:=aC r0;have n7:¬w.heap.size+1+1=U2.heap.size:=bJ (aC t0);have n8:w.heap.size+1+1<U2.heap.size:=aC t0;go_region
        refine Av (fun u=>Hid (Ak u U2.heap.size #[.int .i64 vv.type,.int .u32 vv.word] 114/\Ak u (w.heap.size+1+1) #[.int .i64 c.func,.int .i64 c.head,.int .i64 c.counter,.int .u32 c.init] 72/\Below w.heap.size w u)) ⟨(Ak.new U2 _ _).keep (Ae _),(HU.o.2.1.keep (Aa _ _)).keep (Ae _),Ab (Ab HU.o.2.2.1 lR (Aa _ _)) lR (Ae _)⟩ ?_
        rintro U3 HU3;clear r0 r1 r2 r3 t0 t1 t2 t3 x1' v0 v1 n1 n2 n3 n4 n5 n6 n7 n8;have v0:=HU3.o.1.cell 0;have v1:=HU3.o.1.cell 1;obtain⟨t0,t1,t2,t3⟩:=Bq HU3.o.2.1;clear HU;by_cases s1:vv.type=3
        case neg=>
         go_wp2
         go_ret
         exact⟨.no (fun e=>by obtain⟨v',h1,h2,_⟩:=(HI.o.1 e).2.2.2;rw[HV.o,aG,HVV.o]at h1;cases h1;exact s1 h2),HU3.o.2.2⟩
        case pos=>
         have HS1:Hid (vv.type=3):=s1;rw[s1]at v0;clear s1;go_wp2
         go_ret
         exact⟨.of ⟨fun e=>HI.o.2 ⟨HZ3.o,HZ1.o,HZ2.o,vv,by rw[HV.o,aG];exact HVV.o,HS1.o,by simpa using e⟩,fun e=>by obtain⟨v',h1,h2,h3⟩:=(HI.o.1 e).2.2.2;rw[HV.o,aG,HVV.o]at h1;cases h1;simpa using h3⟩,HU3.o.2.2⟩
 . have HQ:Hid (Eo xs m=(e:Int)):=HS.o.1.trans (JA rfl HX0.o q)
   by_cases f:e<a+1
   . have f1:(e:Int)-1<(a:Int):=by omega
     go_wp2_with fail
     go_quiet (fail)
     go_wp2
     go_ret
     exact⟨.no (AL.few (by rw[HQ.o,HM.o];omega)),Ab HE.o.2.2.2 lR (Af _ _ _)⟩
   . obtain⟨k,hk⟩:∃k,e=k+1:=⟨e-1,by omega⟩
     obtain⟨d,hd⟩:∃d,d=e:=⟨_,rfl⟩;have HD:Hid (d=k+1):=by show d=_;omega
     have HQ:Hid (Eo xs m=((k+1:Nat):Int)):=by have:=HQ.o;show Eo xs m=_;omega
     have f1:¬(k:Int)<(a:Int):=by omega
     have f3:¬k<a:=by omega
     have f4:d<n:=by omega
     have f5:k<n:=by omega
     have wk:IntKind.i64.wrap ((d:Int)-1)=(k:Int):=by rw[dI _ ⟨by omega,by omega⟩];omega
     clear hk f;subst hd;obtain⟨y,hy,q⟩:∃y,xs[d]?=some y/\¬y.op=25:=⟨x0,HX0.o,q⟩
     clear i0 i1;obtain⟨x,hx⟩:∃x,xs[k]?=some x:=⟨_,aA (by rw[HN.o];omega)⟩;have HI:Hid (AL p.consts xs m c↔x.op=1/\y.op=3/\y.a=c.counter/\∃v,p.consts[x.a.toNat]?=some v/\v.type=3/\v.word=c.init):=AL.iff (by first|exact HQ.o|(rw[HQ.o,HD.o])) (by rw[HM.o];omega) hx (by rw[<-HD.o];exact hy)
     obtain⟨y0,y1⟩:=HC.o d y hy;obtain⟨x0',x1'⟩:=HC.o k x hx;have HX:Hid (x∈xs):=aE hx;clear hx hy;obtain⟨t0,t1,t2,t3⟩:=Bq HE.o.2.2.1;by_cases z1:y.op=3
     case neg=>
      go_wp2_with fail
      go_quiet (fail)
      go_wp2
      go_ret
      exact⟨.no (fun e=>z1 (HI.o.1 e).2.1),Ab HE.o.2.2.2 lR (Af _ _ _)⟩
     case pos=>
      rw[z1]at y0;have HZ1:Hid (y.op=3):=z1;clear z1;by_cases z2:y.a=c.counter
      case neg=>
       go_wp2_with fail
       go_quiet (fail)
       go_wp2
       go_ret
       exact⟨.no (fun e=>z2 (HI.o.1 e).2.2.1),Ab HE.o.2.2.2 lR (Af _ _ _)⟩
      case pos=>
       rw[z2]at y1;have HZ2:Hid (y.a=c.counter):=z2;clear z2;by_cases z3:x.op=1
       case neg=>
        go_wp2_with fail
        go_quiet (fail)
        go_wp2
        go_ret
        exact⟨.no (fun e=>z3 (HI.o.1 e).1),Ab HE.o.2.2.2 lR (Af _ _ _)⟩
       case pos=>
        rw[z3]at x0';have HZ3:Hid (x.op=1):=z3;clear z3;go_wp2_with fail
        go_quiet (fail)
        go_wp2_with fail
        obtain⟨hq0,hq1⟩:=HK.o.2 x HX.o HZ3.o;obtain⟨q',hq⟩:=aT hq0;rw[hq]at x1' hq1;have HV:Hid (x.a=(q':Int)):=hq;rw[aG]at hq1;obtain⟨vv,hvv⟩:∃vv,p.consts[q']?=some vv:=⟨_,aA (by rw[HNK.o];exact hq1)⟩;rcases HK.o.1.2 with⟨e0,_⟩|⟨gk,ok,ck,e1,hc2⟩
        . omega
        simp only[aF,aw]at e1;obtain⟨rfl,rfl⟩:=e1;have v0:=Rd.elem MC.cells_length hc2 q' vv hvv 0 _ rfl;have v1:=Rd.elem MC.cells_length hc2 q' vv hvv 1 _ rfl;rw[<-HE.o.2.2.2.cell (aC v0),aS]at v0;rw[<-HE.o.2.2.2.cell (aC v1)]at v1;have HVV:Hid (p.consts[q']?=some vv):=hvv;clear hc2 hvv hq hq0;refine Al (fun u=>Hid (Ak u w.heap.size #[vr,.slice (some ⟨gk,ok,none⟩) nk c1,vf,vt] 35/\Ak u (w.heap.size+1+1) #[.int .i64 c.func,.int .i64 c.head,.int .i64 c.counter,.int .u32 c.init] 72/\Below w.heap.size w u/\u.cell? ⟨g,o+k*4+1,none⟩=some (.int .i64 (q':Int))/\u.cell? ⟨gk,ok+q'*2,none⟩=some (.int .i64 vv.type)/\u.cell? ⟨gk,ok+q'*2+1,none⟩=some (.int .u32 vv.word))) ⟨HE.o.1.keep (Af _ _ _),HE.o.2.2.1.keep (Af _ _ _),Ab HE.o.2.2.2 lR (Af _ _ _),by simpa using x1',by simpa using v0,by simpa using v1⟩ ?_
        rintro U2 HU;clear v0 v1 x1' x0' y0 y1 t0 t1 t2 t3 b0 b1 b2;obtain⟨r0,r1,r2,r3⟩:=Bq HU.o.1;obtain⟨t0,t1,t2,t3⟩:=Bq HU.o.2.1;obtain⟨x1',v0,v1⟩:=HU.o.2.2.2;have n1:¬g=U2.heap.size:=bJ (aC x1');have n2:g<U2.heap.size:=aC x1';have n3:¬gk=U2.heap.size:=bJ (aC v0);have n4:gk<U2.heap.size:=aC v0;have n5:¬w.heap.size=U2.heap.size:=bJ (aC r0);have n6:w.heap.size<U2.heap.size:=aC r0;have n7:¬w.heap.size+1+1=U2.heap.size:=bJ (aC t0);have n8:w.heap.size+1+1<U2.heap.size:=aC t0;go_region
        refine Av (fun u=>Hid (Ak u U2.heap.size #[.int .i64 vv.type,.int .u32 vv.word] 114/\Ak u (w.heap.size+1+1) #[.int .i64 c.func,.int .i64 c.head,.int .i64 c.counter,.int .u32 c.init] 72/\Below w.heap.size w u)) ⟨(Ak.new U2 _ _).keep (Ae _),(HU.o.2.1.keep (Aa _ _)).keep (Ae _),Ab (Ab HU.o.2.2.1 lR (Aa _ _)) lR (Ae _)⟩ ?_
        rintro U3 HU3;clear r0 r1 r2 r3 t0 t1 t2 t3 x1' v0 v1 n1 n2 n3 n4 n5 n6 n7 n8;have v0:=HU3.o.1.cell 0;have v1:=HU3.o.1.cell 1;obtain⟨t0,t1,t2,t3⟩:=Bq HU3.o.2.1;clear HU;by_cases s1:vv.type=3
        case neg=>
         go_wp2
         go_ret
         exact⟨.no (fun e=>by obtain⟨v',h1,h2,_⟩:=(HI.o.1 e).2.2.2;rw[HV.o,aG,HVV.o]at h1;cases h1;exact s1 h2),HU3.o.2.2⟩
        case pos=>
         have HS1:Hid (vv.type=3):=s1;rw[s1]at v0;clear s1;go_wp2
         go_ret
         exact⟨.of ⟨fun e=>HI.o.2 ⟨HZ3.o,HZ1.o,HZ2.o,vv,by rw[HV.o,aG];exact HVV.o,HS1.o,by simpa using e⟩,fun e=>by obtain⟨v',h1,h2,h3⟩:=(HI.o.1 e).2.2.2;rw[HV.o,aG,HVV.o]at h1;cases h1;simpa using h3⟩,HU3.o.2.2⟩
end Go.Proofs.YtdipfjmlfbdkdaaGreat
