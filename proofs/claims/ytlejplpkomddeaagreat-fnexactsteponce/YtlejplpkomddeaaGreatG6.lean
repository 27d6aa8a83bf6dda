import Derived.Test.YtlejplpkomddeaaGreatG0
import Derived.Test.YtlejplpkomddeaaGreatG5
import Derived.Test.YtlejplpkomddeaaGreatG4
import Derived.Laws.StructEq
namespace Go.Proofs.YtlejplpkomddeaaGreat
open Go.ChangeShapes Go.WideShapes Go.ChangeAt Go.RowKit
set_option linter.unusedVariables false
set_option maxHeartbeats 4000000
set_option maxRecDepth 100000
theorem GP(W0:World)(base:Nat)(s:Value)(rs:List (List Int))(k0:Int)(w:World)(hn:rs.length<=1048576)(hr:∀r∈rs,r.length<=1048576)(h0:0<=k0)(h1:k0<=281474976710656)(h:ES W0 base s rs)(hs:Bb W0 w):
  Calls Tryz.prog 52 #[s,.int .i64 k0] w fun e w'=>(∃k1,e=.returned (.int .i64 k1)/\k0<=k1/\k1<=k0+1048576*(rs.length:Int))/\AY base W0.heap.size w w':=by
 obtain⟨xs,hxs,hrow,hel⟩:=h;have hxl:xs.length=rs.length:=by rw[<-hxs];simp
 have H:Hid (W0.ownsRow base 113 1 s rs.length (xs.flatMap Cm)/\Bb W0 w/\xs.map Prod.fst=rs/\(∀x∈xs,W0.ownsRow base 2 1 x.2 x.1.length (x.1.flatMap Af))/\(∀r∈rs,r.length<=1048576)/\xs.length=rs.length):=⟨hrow,hs,hxs,hel,hr,hxl⟩
 clear hs hxs hel hr hxl;rcases Au hrow with⟨rfl,hz⟩|⟨g,c,rfl⟩
 ·clear hrow
  go_enter Tryz.func52,Tryz.ntmps52;go_wp2
  go_loopw [1,5] (fun q i wr=>q=.int .i64 k0/\i=.int .i64 0/\wr=w) (fun _ _ _=>0)
  case atStart=>exact⟨rfl,rfl,rfl⟩
  case round=>
   obtain⟨rfl,rfl,rfl⟩:=hrel;go_wp2
   go_ret
   exact⟨⟨k0,rfl,by omega,by omega⟩,AY.refl _ _ _⟩
 ·clear hrow
  generalize hLL:rs.length=n at hn H⊢;have HL:Hid (rs.length=n):=hLL;clear hLL;go_enter Tryz.func52,Tryz.ntmps52;go_wp2
  go_loopw [1,5] (fun q i wr=>∃(k:Nat) (kk:Int),k<=n/\q=.int .i64 kk/\k0<=kk/\kk<=k0+1048576*k/\i=.int .i64 k/\Hid (AY base W0.heap.size w wr)) (fun _ i _=>n-(intOf i).toNat)
  case atStart=>exact⟨0,k0,by omega,rfl,by omega,by omega,rfl,AY.refl _ _ _⟩
  case round=>
   obtain⟨k,kk,hk,rfl,q0,q1,rfl,HM⟩:=hrel;by_cases hlt:k<n
   ·obtain⟨⟨r,v⟩,hx⟩:∃x,xs[k]?=some x:=⟨_,gE (by rw[H.out.2.2.2.2.2];exact hlt)⟩
    have e1:=AO H.out.2.2.1 hx;have hrl:=H.out.2.2.2.2.1 _ (mG e1);have hrr:=H.out.2.2.2.1 _ (mG hx);simp only[]at hrl hrr;have f0:=Az Cm 1 AK xs k 0 _ hx (by omega);rw[Nat.mul_one,Nat.add_zero]at f0;obtain⟨y0,c0,a0,z0,_⟩:=AN H.out.1 (H.out.2.1.trans HM.out.shaped) f0;obtain⟨av,cv,rfl⟩:=An hrr;obtain rfl:=CZ.slice a0;have HR:=h2 hrr hrl;clear e1 hrr f0 hx a0;go_wp2_with fail
    refine(DQ W0 base (.slice av r.length cv) r kk _ HR.out.2 (by omega) (by omega) HR.out.1 (H.out.2.1.trans HM.out.shaped)).mono ?_;rintro e u ⟨rfl,hm⟩;have HN:=AM (HM.out.trans hm);clear hm c0 z0;go_wp2
    go_roundw
    case rel=>exact⟨k+1,kk+(r.length:Int),by omega,rfl,by omega,by omega,by go_num,HN⟩
    case measure=>simp[intOf];omega
   ·have hkn:k=n:=by omega
    subst hkn;go_wp2
    go_ret
    exact⟨⟨kk,rfl,by omega,by omega⟩,HM.out⟩
theorem H8(W0:World)(base:Nat)(s:Value)(rs:List MF)(k0:Int)(w:World)(hn:rs.length<=1048576)(hr:∀r∈rs,r.small)(h0:0<=k0)(h1:k0<=281474976710656)(h:Dr W0 base s rs)(hs:Bb W0 w):
  Calls Tryz.prog 54 #[s,.int .i64 k0] w fun e w'=>(∃k1,e=.returned (.int .i64 k1)/\k0<=k1/\k1<=k0+6291457*(rs.length:Int))/\AY base W0.heap.size w w':=by
 obtain⟨xs,hxs,hrow,hel⟩:=h;have hxl:xs.length=rs.length:=by rw[<-hxs];simp
 have H:Hid (W0.ownsRow base 131 4 s rs.length (xs.flatMap BC)/\Bb W0 w/\xs.map Prod.fst=rs/\(∀x∈xs,EY W0 base x.2 x.1)/\(∀r∈rs,r.small)/\xs.length=rs.length):=⟨hrow,hs,hxs,hel,hr,hxl⟩
 clear hs hxs hel hr hxl;rcases Au hrow with⟨rfl,hz⟩|⟨g,c,rfl⟩
 ·clear hrow
  go_enter Tryz.func54,Tryz.ntmps54;go_wp2
  go_loopw [1,5] (fun q i wr=>q=.int .i64 k0/\i=.int .i64 0/\wr=w) (fun _ _ _=>0)
  case atStart=>exact⟨rfl,rfl,rfl⟩
  case round=>
   obtain⟨rfl,rfl,rfl⟩:=hrel;go_wp2
   go_ret
   exact⟨⟨k0,rfl,by omega,by omega⟩,AY.refl _ _ _⟩
 ·clear hrow
  generalize hLL:rs.length=n at hn H⊢;have HL:Hid (rs.length=n):=hLL;clear hLL;go_enter Tryz.func54,Tryz.ntmps54;go_wp2
  go_loopw [1,5] (fun q i wr=>∃(k:Nat) (kk:Int),k<=n/\q=.int .i64 kk/\k0<=kk/\kk<=k0+6291457*k/\i=.int .i64 k/\Hid (AY base W0.heap.size w wr)) (fun _ i _=>n-(intOf i).toNat)
  case atStart=>exact⟨0,k0,by omega,rfl,by omega,by omega,rfl,AY.refl _ _ _⟩
  case round=>
   obtain⟨k,kk,hk,rfl,q0,q1,rfl,HM⟩:=hrel;by_cases hlt:k<n
   ·obtain⟨⟨r,⟨vp,vl,vc⟩⟩,hx⟩:∃x,xs[k]?=some x:=⟨_,gE (by rw[H.out.2.2.2.2.2];exact hlt)⟩
    have e1:=AO H.out.2.2.1 hx;have hrl:=H.out.2.2.2.2.1 _ (mG e1);have hrr:=H.out.2.2.2.1 _ (mG hx);simp only[]at hrl;obtain⟨ap,cp,ep⟩:=An hrr.1;obtain⟨al,cl,el⟩:=An hrr.2.1;obtain⟨ac,cc,ec⟩:=An hrr.2.2;simp only[]at ep el ec;subst ep el ec;have f0:=Az BC 4 Ah xs k 0 _ hx (by omega);have f1:=Az BC 4 Ah xs k 1 _ hx (by omega);have f2:=Az BC 4 Ah xs k 2 _ hx (by omega);have f3:=Az BC 4 Ah xs k 3 _ hx (by omega);rw[Nat.add_zero]at f0;have HR:=AM hrr
    have FF:Hid (∀{u:World},Bb W0 u->u.cell? ⟨g,k*4,none⟩=some (.slice ap r.params.length cp)/\u.cell? ⟨g,k*4+2,none⟩=some (.slice al r.locals.length cl)/\u.cell? ⟨g,k*4+3,none⟩=some (.slice ac r.code.length cc)/\(∃y,u.cell? ⟨g,k*4+1,none⟩=some y)/\u.frozen? ⟨g,k*4+1,none⟩=false/\∀z,AY base W0.heap.size u (u.setCell ⟨g,k*4+1,none⟩ (.int .i64 z))):=fun hsu=>by
     obtain⟨y0,c0,a0,_,_⟩:=AN H.out.1 hsu f0;obtain⟨y1,c1,a1,z1,m1⟩:=AN H.out.1 hsu f1;obtain⟨y2,c2,a2,_,_⟩:=AN H.out.1 hsu f2;obtain⟨y3,c3,a3,_,_⟩:=AN H.out.1 hsu f3;obtain rfl:=CZ.slice a0;obtain rfl:=CZ.slice a2;obtain rfl:=CZ.slice a3;exact⟨c0,c2,c3,⟨y1,c1⟩,z1,fun z=>m1 base W0.heap.size _ lR lR (.inr ⟨.i64,r.result,z,rfl,rfl⟩)⟩
    obtain⟨s1,s2,s3⟩:=hrl;clear e1 hrr f0 f1 f2 f3 hx;have S0:=H.out.2.1.trans HM.out.shaped;obtain⟨c0,c2,c3,⟨y1,c1⟩,z1,_⟩:=FF.out S0;clear S0;go_wp2_with fail
    refine(DQ W0 base (.slice ap r.params.length cp) r.params kk _ s1 (by omega) (by omega) HR.out.1 (H.out.2.1.trans HM.out.shaped)).mono ?_;rintro e u1 ⟨rfl,hm⟩;have HM1:=AM (HM.out.trans hm);clear hm c0 c1 c2 c3 z1 y1;have S0:=H.out.2.1.trans HM1.out.shaped;obtain⟨c0,c2,c3,⟨y1,c1⟩,z1,m1⟩:=FF.out S0;have HM2:Hid (AY _ _ w (u1.setCell ⟨g,k*4+1,none⟩ (.int .i64 (kk+(r.params.length:Int))))):=HM1.out.trans (m1 _);obtain⟨_,t2,_⟩:=FF.out (H.out.2.1.trans HM2.out.shaped);clear m1 S0;go_wp2_with fail
    refine(DQ W0 base (.slice al r.locals.length cl) r.locals (kk+(r.params.length:Int)+1) _ s2 (by omega) (by omega) HR.out.2.1 (H.out.2.1.trans HM2.out.shaped)).mono ?_;rintro e u2 ⟨rfl,hm⟩;have HM3:=AM (HM2.out.trans hm);clear hm c0 c1 c2 c3 z1 y1 t2;have S0:=H.out.2.1.trans HM3.out.shaped;obtain⟨c0,c2,c3,⟨y1,c1⟩,z1,m1⟩:=FF.out S0;clear m1 S0;go_wp2_with fail
    refine(Hj W0 base (.slice ac r.code.length cc) r.code (kk+(r.params.length:Int)+1+(r.locals.length:Int)) _ s3 (by omega) (by omega) HR.out.2.2 (H.out.2.1.trans HM3.out.shaped)).mono ?_;rintro e u3 ⟨rfl,hm⟩;have HN:=AM (HM3.out.trans hm);clear hm c0 c1 c2 c3 z1 y1;go_wp2
    go_roundw
    case rel=>exact⟨k+1,kk+(r.params.length:Int)+1+(r.locals.length:Int)+4*(r.code.length:Int),by omega,rfl,by omega,by omega,by go_num,HN⟩
    case measure=>simp[intOf];omega
   ·have hkn:k=n:=by omega
    subst hkn;go_wp2
    go_ret
    exact⟨⟨kk,rfl,by omega,by omega⟩,HM.out⟩
theorem GQ(W0:World)(base:Nat)(v:VP)(p:MP)(w:World)(hn:p.small)(h:Fz W0 base v p)(hb:Below W0.heap.size W0 w):
  Calls Tryz.prog 13 #[.agg #[v.r,v.k,v.f,v.t],.int .i64 1] w fun e w'=>(∃k1:Int,e=.returned (.int .i64 k1)/\0<=k1/\k1<=17592186044416)/\Ds base W0.heap.size w w':=by
 have H:=h2 hn h;clear hn h;have hA:(w.alloc (.cells #[v.r,v.k,v.f,v.t] 45)).ownsRow w.heap.size 45 4 (.slice (some ⟨w.heap.size,0,none⟩) 1 1) 1 [v.r,v.k,v.f,v.t]:=World.ownsRow_lit (base:=w.heap.size) (e:=45) (size:=4) w #[v.r,v.k,v.f,v.t] 1 lR (by unfold maxLen;omega) (by simp);have HS:Hid (Bb W0 (w.alloc (.cells #[v.r,v.k,v.f,v.t] 45))):=(Bb.of_below hb).trans (Bb.of_below ((Below.refl _ _).alloc lR _));have hWs:=hb.size;have HB:Hid (Below w.heap.size w (w.alloc (.cells #[v.r,v.k,v.f,v.t] 45))):=(Below.refl _ _).alloc lR _;go_enter Tryz.func13,Tryz.ntmps13;go_wp2_with fail;generalize w.alloc (.cells #[v.r,v.k,v.f,v.t] 45)=W1 at hA HS HB⊢;refine(GP W0 base v.r p.regions 1 _ H.out.1.regions H.out.1.region (by omega) (by omega) H.out.2.regions HS.out).mono ?_;rintro e u1 ⟨⟨k1,rfl,k10,k11⟩,m1⟩;have HM1:=AM m1;have hl1:=H.out.1.regions;have hl2:=H.out.1.consts;have hl3:=H.out.1.funcs;have hl4:=H.out.1.certs
 have keep:∀{u:World},AY base W0.heap.size W1 u->∀(i:Nat) x,W1.cell? ⟨w.heap.size,i,none⟩=some x->u.cell? ⟨w.heap.size,i,none⟩=some x:=fun hm i x hx=>by
  have:=hm.out w.heap.size (.inr hWs);unfold World.cell? at*;rw[this];exact hx
 have HK:Hid (∀{u:World},AY base W0.heap.size W1 u->u.cell? ⟨w.heap.size,0,none⟩=some v.r/\u.cell? ⟨w.heap.size,1,none⟩=some v.k/\u.cell? ⟨w.heap.size,2,none⟩=some v.f/\u.cell? ⟨w.heap.size,3,none⟩=some v.t):=fun hm=>⟨keep hm 0 _ (hA.cellAt 0 (by omega)),keep hm 1 _ (hA.cellAt 1 (by omega)),keep hm 2 _ (hA.cellAt 2 (by omega)),keep hm 3 _ (hA.cellAt 3 (by omega))⟩
 clear m1 keep hA;obtain⟨p0,p1,p2,p3⟩:=HK.out HM1.out;go_wp2_with fail
 refine(He W0 base v.k p.consts k1 _ hl2 (by omega) (by omega) H.out.2.consts (HS.out.trans HM1.out.shaped)).mono ?_;rintro e u2 ⟨rfl,m2⟩;have HM2:=AM (HM1.out.trans m2);clear m2 p0 p1 p2 p3;obtain⟨p0,p1,p2,p3⟩:=HK.out HM2.out;go_wp2_with fail
 refine(H8 W0 base v.f p.funcs (k1+2*(p.consts.length:Int)) _ hl3 H.out.1.func (by omega) (by omega) H.out.2.funcs (HS.out.trans HM2.out.shaped)).mono ?_;rintro e u3 ⟨⟨k3,rfl,k30,k31⟩,m3⟩;have HM3:=AM (HM2.out.trans m3);clear m3 p0 p1 p2 p3;obtain⟨p0,p1,p2,p3⟩:=HK.out HM3.out;go_wp2_with fail
 refine(It W0 base v.t p.certs k3 _ hl4 (by omega) (by omega) H.out.2.certs (HS.out.trans HM3.out.shaped)).mono ?_;rintro e u4 ⟨rfl,m4⟩;have HM4:=AM (HM3.out.trans m4);clear m4 p0 p1 p2 p3;go_wp2
 go_ret
 exact⟨⟨_,rfl,by omega,by omega⟩,Ds.of HB.out lR HM4.out⟩
structure Ch(f:MF):Prop where
 par:f.params.length<=8
 loc:f.params.length+f.locals.length<=32
 pt:f.params.all C9=true
 lt:f.locals.all C9=true
 res:f.result=0\/C9 f.result=true
 code0:¬f.code.length=0
 code1:f.code.length<=1024
def L1(f:MF):Prop:=f.params.length=0/\f.result=0
def BR(f:MF)(main:Bool):Prop:=Ch f/\(main=true->L1 f)
theorem Lw(v:VF)(f:MF)(main:Bool)(w:World)(hs:f.small)(h:CK w v f):
  Calls Tryz.prog 119 #[.agg #[v.p,.int .i64 f.result,v.l,v.c],.bool main] w fun e w'=>Ao e (BR f main)/\Below w.heap.size w w':=by
 have H1:Hid (CK w v f/\f.small):=⟨h,hs⟩
 obtain⟨a1,c1,e1⟩:=h.1.is_slice;obtain⟨a2,c2,e2⟩:=h.2.1.is_slice;obtain⟨a3,c3,e3⟩:=h.2.2.is_slice;obtain⟨vp,vl,vc⟩:=v;obtain⟨s1,s2,s3⟩:=hs;simp only[]at e1 e2 e3;subst e1 e2 e3;clear h;have HB:Hid (Below w.heap.size w (w.alloc (.cells #[.slice a1 f.params.length c1,.int .i64 f.result,.slice a2 f.locals.length c2,.slice a3 f.code.length c3] 131))):=Aa _ _;by_cases q1:8<f.params.length
 ·have HN:Hid (¬(BR f main)):=fun e=>absurd e.1.par (by omega)
  clear H1;generalize f.params.length=n1 at*;go_enter Tryz.func119,Tryz.ntmps119;go_wp2
  go_ret
  exact⟨.no HN.out,HB.out⟩
 by_cases q2:32<f.params.length+f.locals.length
 ·have HN:Hid (¬(BR f main)):=fun e=>absurd e.1.loc (by omega)
  clear H1;generalize f.params.length=n1 at*;generalize f.locals.length=n2 at*;go_enter Tryz.func119,Tryz.ntmps119;go_wp2
  go_ret
  exact⟨.no HN.out,HB.out⟩
 have q1':¬(8:Int)<(f.params.length:Int):=by omega
 have q2':¬(32:Int)<(f.params.length:Int)+(f.locals.length:Int):=by omega
 have HQ:Hid (f.params.length<=8/\f.params.length+f.locals.length<=32):=⟨by omega,by omega⟩
 go_enter Tryz.func119,Tryz.ntmps119;go_wp2_with fail
 refine(EX _ f.params _ H1.out.2.1 (H1.out.1.1.keep HB.out lR)).mono ?_;rintro e u ⟨rfl,rfl⟩;cases t1:f.params.all C9
 ·have HN:Hid (¬(BR f main)):=fun e=>by have:=e.1.pt;simp[t1]at this
  clear t1;go_wp2
  go_ret
  exact⟨.no HN.out,HB.out⟩
 have HT1:Hid (f.params.all C9=true):=t1;clear t1;go_wp2_with fail
 refine(EX _ f.locals _ H1.out.2.2.1 (H1.out.1.2.1.keep HB.out lR)).mono ?_;rintro e u ⟨rfl,rfl⟩;cases t1:f.locals.all C9
 ·have HN:Hid (¬(BR f main)):=fun e=>by have:=e.1.lt;simp[t1]at this
  clear t1;go_wp2
  go_ret
  exact⟨.no HN.out,HB.out⟩
 have HT2:Hid (f.locals.all C9=true):=t1;clear t1;generalize hR:f.result=R at*;generalize h1:f.params.length=n1 at*;generalize h3:f.code.length=n3 at*;have HE:Hid (f.result=R/\f.params.length=n1/\f.code.length=n3):=⟨hR,h1,h3⟩
 clear hR h1 h3 q1 q2;by_cases q3:R=0
 ·subst q3
  by_cases q4:n3=0
  ·subst q4
   have HN:Hid (¬(BR f main)):=fun e=>e.1.code0 HE.out.2.2
   go_wp2
   go_ret
   exact⟨.no HN.out,HB.out⟩
  have q4':((n3:Int)==0)=false:=by simpa using q4
  by_cases q5:1024<n3
  ·have q5':(1024:Int)<(n3:Int):=by omega
   have HN:Hid (¬(BR f main)):=fun e=>absurd e.1.code1 (by rw[HE.out.2.2];omega)
   go_wp2
   go_ret
   exact⟨.no HN.out,HB.out⟩
  have q5':¬(1024:Int)<(n3:Int):=by omega
  cases main
  ·have HY:Hid (BR f false):=⟨⟨by rw[HE.out.2.1];exact HQ.out.1,by rw[HE.out.2.1];exact HQ.out.2,HT1.out,HT2.out,.inl HE.out.1,by rw[HE.out.2.2];exact q4,by rw[HE.out.2.2];omega⟩,fun h=>by cases h⟩
   go_wp2
   go_ret
   exact⟨.yes HY.out,HB.out⟩
  ·by_cases q6:n1=0
   ·subst q6
    have HY:Hid (BR f true):=⟨⟨by rw[HE.out.2.1];exact HQ.out.1,by rw[HE.out.2.1];exact HQ.out.2,HT1.out,HT2.out,.inl HE.out.1,by rw[HE.out.2.2];exact q4,by rw[HE.out.2.2];omega⟩,fun _=>⟨HE.out.2.1,HE.out.1⟩⟩;go_wp2;go_ret;exact⟨.yes HY.out,HB.out⟩
   ·have q6':((n1:Int)==0)=false:=by simpa using q6
    have HN:Hid (¬(BR f true)):=fun e=>q6 (by rw[<-HE.out.2.1];exact(e.2 rfl).1)
    go_wp2
    go_ret
    exact⟨.no HN.out,HB.out⟩
 ·have q3':(R==0)=false:=by simpa using q3
  go_wp2_with fail
  refine(Bp R _).mono ?_;rintro e u ⟨rfl,rfl⟩;cases t1:C9 R
  ·have HN:Hid (¬(BR f main)):=fun e=>by have:=e.1.res;rw[HE.out.1]at this;simp[q3,t1]at this
   go_wp2
   go_ret
   exact⟨.no HN.out,HB.out⟩
  have HT3:Hid (C9 R=true):=t1;clear t1;by_cases q4:n3=0
  ·subst q4
   have HN:Hid (¬(BR f main)):=fun e=>e.1.code0 HE.out.2.2
   go_wp2
   go_ret
   exact⟨.no HN.out,HB.out⟩
  have q4':((n3:Int)==0)=false:=by simpa using q4
  by_cases q5:1024<n3
  ·have q5':(1024:Int)<(n3:Int):=by omega
   have HN:Hid (¬(BR f main)):=fun e=>absurd e.1.code1 (by rw[HE.out.2.2];omega)
   go_wp2
   go_ret
   exact⟨.no HN.out,HB.out⟩
  have q5':¬(1024:Int)<(n3:Int):=by omega
  cases main
  ·have HY:Hid (BR f false):=⟨⟨by rw[HE.out.2.1];exact HQ.out.1,by rw[HE.out.2.1];exact HQ.out.2,HT1.out,HT2.out,.inr (by rw[HE.out.1];exact HT3.out),by rw[HE.out.2.2];exact q4,by rw[HE.out.2.2];omega⟩,fun h=>by cases h⟩
   go_wp2
   go_ret
   exact⟨.yes HY.out,HB.out⟩
  ·by_cases q6:n1=0
   ·subst q6
    have HN:Hid (¬(BR f true)):=fun e=>q3 (by rw[<-HE.out.1];exact(e.2 rfl).2)
    go_wp2
    go_ret
    exact⟨.no HN.out,HB.out⟩
   ·have q6':((n1:Int)==0)=false:=by simpa using q6
    have HN:Hid (¬(BR f true)):=fun e=>q6 (by rw[<-HE.out.2.1];exact(e.2 rfl).1)
    go_wp2
    go_ret
    exact⟨.no HN.out,HB.out⟩
theorem NF:(Tryz.prog.info? 36).map (fun i=>(i.zero,i.size,i.bytes))=some (some (.slice none 0 0),1,24):=by kernel_rfl
def Ce(x:List MC×Value):List Value:=[x.2]
theorem Bf(x:List MC×Value):(Ce x).length=1:=rfl
def Ie(w:World)(s:Value)(rs:List (List MC)):Prop:=∃xs:List (List MC×Value),xs.map Prod.fst=rs/\Rd w 1 s rs.length (xs.flatMap Ce)/\∀x∈xs,Rd w 2 x.2 x.1.length (x.1.flatMap MC.cells)
def Dv(w:World)(base:Nat)(s:Value)(rs:List (List MC)):Prop:=∃xs:List (List MC×Value),xs.map Prod.fst=rs/\w.ownsRow base 36 1 s rs.length (xs.flatMap Ce)/\∀x∈xs,w.ownsRow base 128 2 x.2 x.1.length (x.1.flatMap MC.cells)
theorem Dv.rd{w:World}{base:Nat}{s:Value}{rs:List (List MC)}(h:Dv w base s rs):Ie w s rs:=by
 obtain⟨xs,h1,h2,h3⟩:=h;exact⟨xs,h1,Rd.of_own h2,fun x hx=>Rd.of_own (h3 x hx)⟩
theorem Ie.keep{w w':World}{s:Value}{rs:List (List MC)}(h:Ie w s rs){B:Nat}(hb:Below B w w')(hB:w.heap.size<=B):Ie w' s rs:=by
 obtain⟨xs,h1,h2,h3⟩:=h;exact⟨xs,h1,h2.keep hb hB,fun x hx=>(h3 x hx).keep hb hB⟩
theorem Dv.keep{w w':World}{base:Nat}{s:Value}{rs:List (List MC)}(h:Dv w base s rs){B:Nat}(hb:Below B w w')(hB:w.heap.size<=B):Dv w' base s rs:=by
 obtain⟨xs,h1,h2,h3⟩:=h;exact⟨xs,h1,Ai h2 hb hB,fun x hx=>Ai (h3 x hx) hb hB⟩
theorem Dv.base{w:World}{base base':Nat}{s:Value}{rs:List (List MC)}(h:Dv w base s rs)(hb:base'<=base):Dv w base' s rs:=by
 obtain⟨xs,h1,h2,h3⟩:=h;exact⟨xs,h1,AA h2 hb,fun x hx=>AA (h3 x hx) hb⟩
theorem Dv.below{w:World}{base:Nat}{s:Value}{rs:List (List MC)}(h:Dv w base s rs){a:Addr}(ha:a.block<base)(u:Value):Dv (w.setCell a u) base s rs:=by
 obtain⟨xs,h1,h2,h3⟩:=h;exact⟨xs,h1,ownsRow_setCell_below h2 ha u,fun x hx=>ownsRow_setCell_below (h3 x hx) ha u⟩
structure PA(w wr:World)(fs:List (List MC))(L k:Nat)(ys:List (List MC×Value)):Prop where
 fst:ys.map Prod.fst=fs.take k
 len:ys.length=k
 row:wr.ownsRow w.heap.size 36 1 (.slice (some ⟨w.heap.size,0,none⟩) L L) L (EQ Ce [.slice none 0 0] ys L)
 els:∀y∈ys,wr.ownsRow (w.heap.size+1) 128 2 y.2 y.1.length (y.1.flatMap MC.cells)
 bel:Below w.heap.size w wr
 siz:w.heap.size+1<=wr.heap.size
theorem PA.places{w wr:World}{fs:List (List MC)}{L k:Nat}{ys:List (List MC×Value)}(h:PA w wr fs L k ys)(hk:k<L){u:World}(hb:Below wr.heap.size wr u):
  u.cell? ⟨w.heap.size,k,none⟩=some (.slice none 0 0)/\u.frozen? ⟨w.heap.size,k,none⟩=false:=by
 have hown:=Ai h.row hb lR;rw[Cp Ce _ ys k L hk h.len]at hown;have hA:(ys.flatMap Ce).length=k:=by rw[Aw Ce 1 Bf,h.len,Nat.mul_one]
 have d0:=hown.cellAt k (by omega);rw[List.getElem?_append_right (by omega),hA]at d0;rw[Nat.sub_self]at d0;exact⟨d0,hown.frozenAt _⟩
theorem PA.next{w wr:World}{fs:List (List MC)}{L k:Nat}{ys:List (List MC×Value)}(h:PA w wr fs L k ys)(hk:k<L){u:World}(hb:Below wr.heap.size wr u){f:List MC}(hf:fs[k]?=some f){v:Value}(ho:u.ownsRow wr.heap.size 128 2 v f.length (f.flatMap MC.cells)):
  PA w (u.setCell ⟨w.heap.size,k,none⟩ v) fs L (k+1) (ys++[(f,v)]):=by
 have hown:=Ai h.row hb lR;rw[Cp Ce _ ys k L hk h.len]at hown;have hA:(ys.flatMap Ce).length=k:=by rw[Aw Ce 1 Bf,h.len,Nat.mul_one]
 have s0:=(hown.stored k v).1;rw[Pz _ _ _ _ k hA]at s0;refine⟨G6 h.fst hf v,by simp[h.len],?_,?_,?_,?_⟩
 ·rw[Ew Ce _ ys k L (f,v) h.len]
  exact s0
 ·intro y hy
  have hy':u.ownsRow (w.heap.size+1) 128 2 y.2 y.1.length (y.1.flatMap MC.cells):=by
   rcases List.mem_append.1 hy with hy|hy
   ·exact Ai (h.els y hy) hb lR
   ·simp only[List.mem_singleton]at hy
    subst hy;exact AA ho h.siz
  exact ownsRow_setCell_below hy' (by simp) _
 ·exact(h.bel.trans (hb.mono (by have:=h.siz;omega))).setCell lR _
 ·have:=hb.size
  have:=h.siz;simp;omega
theorem Ip(s:Value)(fs:List (List MC))(w:World)(hL:fs.length<=1048576)(hs:∀f∈fs,f.length<=1048576)(h:Ie w s fs):
  Calls Tryz.prog 37 #[s] w fun e w'=>∃a c,e=.returned (.slice a fs.length c)/\Dv w' w.heap.size (.slice a fs.length c) fs/\Below w.heap.size w w':=by
 obtain⟨i0,hi,hz0,hz1,hz2⟩:=info_parts NF;obtain⟨xs,hxs,hrd,hel⟩:=h;have hxl:xs.length=fs.length:=by rw[<-hxs];simp
 have H1:=h5 hrd hxs hel hs hxl;obtain⟨a1,c1,rfl⟩:=hrd.is_slice;clear hrd hxs hel hs hxl;generalize hLL:fs.length=L at hL H1;have HL:Hid (fs.length=L):=hLL;clear hLL;go_enter Tryz.func37,Tryz.ntmps37;go_wp2_with (at_make;refine wpList_make_full _ rfl _ _ 35 rfl w.heap.size 36 i0 (.slice none 0 0) 1 Tryz.underlying35 hi hz0 hz1 .i64 .i64 _ _ L rfl rfl rfl rfl (by rw[hz2];omega) (by unfold maxLen;omega) lR ?_;intro w1 hown hgrow);rw[EG Ce [.slice none 0 0] L (.slice none 0 0) 1 rfl rfl (by omega)]at hown;have hB:Below w.heap.size w w1:=(Below.refl _ _).grown hgrow lR (fun k hk=>by cases hk);have hst:PA w w1 fs L 0 []:=⟨by simp,rfl,hown,(fun y hy=>by cases hy),hB,JK hown⟩;clear hgrow hown hB;go_loopw [4] (fun i wr=>∃k:Nat,k<=L/\i=.int .i64 k/\∃ys,PA w wr fs L k ys) (fun i _=>L-(intOf i).toNat)
 case atStart=>exact⟨0,by omega,rfl,_,hst⟩
 case round=>
  clear hst;obtain⟨k,hk,rfl,ys,hst⟩:=hrel;by_cases hlt:k<L
  ·obtain⟨x,hx⟩:∃x,xs[k]?=some x:=⟨_,gE (by rw[H1.out.2.2.2.2];exact hlt)⟩
   have hfx:=AO H1.out.2.1 hx;have hrx:=H1.out.2.2.1 x (mG hx);have hsm:=H1.out.2.2.2.1 x.1 (mG hfx);rcases H1.out.1.2 with⟨e0,_⟩|⟨g,o,c,e1,hc1⟩
   ·omega
   ·simp only[sJ,true_and]at e1
    obtain⟨rfl,rfl⟩:=e1;have i0:=Rd.elem Bf hc1 k x hx 0 _ rfl;rw[<-hst.bel.cell (bL i0)]at i0;rw[Nat.mul_one,Nat.add_zero]at i0;obtain⟨f,v⟩:=x;have HX:=h3 hfx (hrx.keep hst.bel lR) hsm;clear hfx hrx hsm hx hc1;simp only[]at i0;go_wp2_with fail
    refine(Ev v f wr HX.out.2.2 HX.out.2.1).mono ?_;rintro e u ⟨b1,d1,rfl,hou,hbu⟩;obtain⟨q0,f0⟩:=hst.places hlt hbu;have HN:Hid _:=hst.next hlt hbu HX.out.1 hou;clear hou hbu i0 hst HX;go_wp2
    go_roundw
    case rel=>exact⟨k+1,by omega,by go_num,_,HN.out⟩
    case measure=>simp[intOf];omega
  ·have hkn:k=L:=by omega
   subst hkn;go_wp2
   go_ret
   refine⟨some ⟨w.heap.size,0,none⟩,k,rfl,⟨ys,?_,?_,fun y hy=>AA (hst.els y hy) (by omega)⟩,hst.bel⟩
   ·rw[hst.fst,<-HL.out,List.take_length]
   ·have hrow:=hst.row
    rw[Fs _ _ _ _ hst.len]at hrow;rw[HL.out];exact hrow
theorem Hn(s s':Value)(fs:List (List MC))(w:World)(hL:fs.length<=1048576)(hs:∀f∈fs,f.length<=1048576)(h:Ie w s fs)(h':Ie w s' fs):
  Calls Tryz.prog 45 #[s,s'] w fun e w'=>e=.returned (.bool true)/\Below w.heap.size w w':=by
 obtain⟨xs,hxs,hrd,hel⟩:=h;obtain⟨xs',hxs',hrd',hel'⟩:=h';have hxl:xs.length=fs.length:=by rw[<-hxs];simp
 have hxl':xs'.length=fs.length:=by rw[<-hxs'];simp
 have H1:=h5 hrd hxs hel hs hxl;have H2:=h5 hrd' hxs' hel' hs hxl';obtain⟨a1,c1,rfl⟩:=hrd.is_slice;obtain⟨a2,c2,rfl⟩:=hrd'.is_slice;clear hrd hxs hel hs hxl hrd' hxs' hel' hxl';generalize hLL:fs.length=n at hL H1 H2;clear hLL;go_enter Tryz.func45,Tryz.ntmps45;go_wp2
 go_loopw [5] (fun i wr=>∃k:Nat,k<=n/\i=.int .i64 k/\Below w.heap.size w wr) (fun i _=>n-(intOf i).toNat)
 case atStart=>exact⟨0,by omega,rfl,Below.refl _ _⟩
 case round=>
  obtain⟨k,hk,rfl,hbel⟩:=hrel;have HB:Hid (Below w.heap.size w wr):=hbel;clear hbel;by_cases hlt:k<n
  ·obtain⟨⟨f,v⟩,hx⟩:∃x,xs[k]?=some x:=⟨_,gE (by rw[H1.out.2.2.2.2];exact hlt)⟩
   obtain⟨⟨f',v'⟩,hx'⟩:∃x,xs'[k]?=some x:=⟨_,gE (by rw[H2.out.2.2.2.2];exact hlt)⟩;have e1:=AO H1.out.2.1 hx;have e2:=AO H2.out.2.1 hx'
   have hff:f'=f:=by
    rw[e1]at e2;exact(Option.some.inj e2).symm
   subst hff;have HX:Hid (Rd wr 2 v f'.length (f'.flatMap MC.cells)/\Rd wr 2 v' f'.length (f'.flatMap MC.cells)/\f'.length<=1048576):=⟨(H1.out.2.2.1 _ (mG hx)).keep HB.out lR,(H2.out.2.2.1 _ (mG hx')).keep HB.out lR,Nat.le_trans (H1.out.2.2.2.1 _ (mG e1)) (by omega)⟩
   clear e1 e2;rcases H1.out.1.2 with⟨e0,_⟩|⟨g,o,c,e1,hc1⟩
   ·omega
   ·rcases H2.out.1.2 with⟨e0,_⟩|⟨g',o',c',e2,hc2⟩
    ·omega
    ·simp only[sJ,true_and]at e1 e2
     obtain⟨rfl,rfl⟩:=e1;obtain⟨rfl,rfl⟩:=e2;have i0:=Rd.elem Bf hc1 k _ hx 0 _ rfl;have j0:=Rd.elem Bf hc2 k _ hx' 0 _ rfl;rw[<-HB.out.cell (bL i0)]at i0;rw[<-HB.out.cell (bL j0)]at j0;rw[Nat.mul_one,Nat.add_zero]at i0 j0;clear hc1 hc2 hx hx';simp only[]at i0 j0;go_wp2_with fail
     go_region_with (go_at_call 46;refine(Ei v v' f' _ HX.out.2.2 (by exact HX.out.1) (by exact HX.out.2.1)).mono ?_;rintro e u ⟨rfl,hbu⟩)
     all_goals
      have HB2:Hid (Below w.heap.size w u):=HB.out.trans (Ar hbu HB.out.size);clear hbu HB i0 j0;go_wp2
      go_roundw
      case rel=>exact⟨k+1,by omega,by go_num,HB2.out⟩
      case measure=>simp[intOf];omega
  ·go_wp2
   go_ret
   exact⟨rfl,HB.out⟩
theorem Ic(s:Value)(fs:List (List MC))(left:Int)(w:World)(hL:fs.length<=9223372036854775807)(hs:∀f∈fs,f.length<=9223372036854775807)(h:Ie w s fs)(h0:0<=left)(h1:left<=1048576):
  Calls Tryz.prog 26 #[s,.int .i64 left] w fun e w'=>∃r:Int,e=.returned (.int .i64 r)/\(r=-1\/0<=r/\r<=left/\(fs.length:Int)<=left/\∀f∈fs,(f.length:Int)<=left)/\w'=w:=by
 obtain⟨xs,hxs,hrd,hel⟩:=h;have hxl:xs.length=fs.length:=by rw[<-hxs];simp
 have H1:=h5 hrd hxs hel hs hxl;obtain⟨a1,c1,rfl⟩:=hrd.is_slice;clear hrd hxs hel hs hxl;generalize hLL:fs.length=n at hL H1⊢;have HL:Hid (fs.length=n):=hLL;clear hLL;by_cases hb:left-n<0
 ·go_enter Tryz.func26,Tryz.ntmps26
  go_wp2
  go_ret
  exact⟨-1,rfl,.inl rfl,rfl⟩
 ·go_enter Tryz.func26,Tryz.ntmps26
  go_wp2
  go_loopw [1,5] (fun l i wr=>∃(k:Nat) (q:Int),k<=n/\l=.int .i64 q/\i=.int .i64 k/\0<=q/\q<=left/\Hid (∀f∈fs.take k,(f.length:Int)<=left)/\wr=w) (fun _ i _=>n-(intOf i).toNat)
  case atStart=>exact⟨0,left-n,by omega,rfl,rfl,by omega,by omega,(fun f hf=>by simp at hf),rfl⟩
  case round=>
   obtain⟨k,q,hk,rfl,rfl,q0,q1,HQ,rfl⟩:=hrel;by_cases hlt:k<n
   ·obtain⟨⟨f,v⟩,hx⟩:∃x,xs[k]?=some x:=⟨_,gE (by rw[H1.out.2.2.2.2];exact hlt)⟩
    have e1:=AO H1.out.2.1 hx;have hv:=H1.out.2.2.1 _ (mG hx);have hfl:=H1.out.2.2.2.1 _ (mG e1);simp only[]at hv hfl e1;obtain⟨av,cv,rfl⟩:=hv.is_slice;rcases H1.out.1.2 with⟨e0,_⟩|⟨g,o,c,e2,hc1⟩
    ·omega
    ·simp only[sJ,true_and]at e2
     obtain⟨rfl,rfl⟩:=e2;have i0:=Rd.elem Bf hc1 k _ hx 0 _ rfl;rw[Nat.mul_one,Nat.add_zero]at i0;simp only[]at i0;have HE:Hid (fs[k]?=some f):=e1;clear hc1 hx hv e1;by_cases hq:q-f.length<0
     ·have hz:Fx q f.length=-1:=if_pos hq
      go_wp2_with fail
      refine(DA av f.length cv q wr hfl q0 (by omega)).mono ?_;rw[hz];rintro e u ⟨rfl,rfl⟩;clear hz;go_wp2
      go_ret
      exact⟨-1,rfl,.inl rfl,rfl⟩
     ·have hz:Fx q f.length=q-f.length:=if_neg hq
      go_wp2_with fail
      refine(DA av f.length cv q wr hfl q0 (by omega)).mono ?_;rw[hz];rintro e u ⟨rfl,rfl⟩;clear hz;go_wp2
      go_roundw
      case rel=>
       refine⟨k+1,q-f.length,by omega,rfl,by go_num,by omega,by omega,?_,by trivial⟩;intro y hy;obtain⟨hlt',hf'⟩:=gI.1 HE.out;rw[List.take_succ_eq_append_getElem hlt',hf']at hy;rcases List.mem_append.1 hy with hy|hy
       ·exact HQ.out y hy
       ·simp only[List.mem_singleton]at hy
        subst hy;omega
      case measure=>simp[intOf];omega
   ·have hkn:k=n:=by omega
    subst hkn
    have HA:Hid (∀f∈fs,(f.length:Int)<=left):=by
     have:=HQ.out;rw[<-HL.out,List.take_length]at this;exact this
    clear HQ;go_wp2
    go_ret
    exact⟨q,rfl,.inr ⟨q0,q1,by omega,HA.out⟩,rfl⟩
def Bi(c:MC):Prop:=C9 c.type=true/\(c.type=1->c.word<=1)
def A3(cs:List MC):Prop:=cs.length<=64/\∀j,j<cs.length->∀c,cs[j]?=some c->Bi c
theorem BK{α:Type}{q:α->Prop}{xs:List α}{k:Nat}{x:α}(h1:xs[k]?=some x)(hx:q x)(h:∀j,j<k->∀c,xs[j]?=some c->q c):∀j,j<k+1->∀c,xs[j]?=some c->q c:=by
 intro j hj c hc;by_cases e:j=k
 ·subst e
  rw[h1]at hc;exact(Option.some.inj hc)▸hx
 ·exact h j (by omega) c hc
theorem IW(v:VP)(p:MP)(w:World)(hs:p.small)(h:Cx w v p):
  Calls Tryz.prog 118 #[.agg #[v.r,v.k,v.f,v.t]] w fun e w'=>Ao e (A3 p.consts)/\Below w.heap.size w w':=by
 have H1:=AM h.consts;have hn:=hs.consts;obtain⟨vr,vk,vf,vt⟩:=v;obtain⟨a1,c1,e1⟩:∃a c,vk=.slice a p.consts.length c:=h.consts.is_slice;subst e1;clear h hs;have HW:Hid (Below w.heap.size w (w.alloc (.cells #[vr,.slice a1 p.consts.length c1,vf,vt] 45))/\C6 (w.alloc (.cells #[vr,.slice a1 p.consts.length c1,vf,vt] 45)) _ vr _ vf vt):=⟨Aa _ _,C6.new _ _ _ _ _ _⟩
 generalize hcs:p.consts=cs at*;clear hcs;generalize hLL:cs.length=n at hn H1 HW;have HL:Hid (cs.length=n):=hLL;clear hLL;go_enter Tryz.func118,Tryz.ntmps118;go_wp2
 go_loopw [3] (fun i wr=>∃k:Nat,k<=n/\i=.int .i64 k/\Hid (∀j,j<k->∀c,cs[j]?=some c->Bi c)/\Hid (Below w.heap.size w wr/\C6 wr w.heap.size vr (.slice a1 n c1) vf vt)) (fun i _=>n-(intOf i).toNat)
 case atStart=>exact⟨0,by omega,rfl,fun j hj=>by omega,HW⟩
 case round=>
  clear HW;obtain⟨k,hk,rfl,HT,HW⟩:=hrel;obtain⟨p0,p1,p2,p3⟩:=HW.out.2;by_cases hlt:k<n
  ·obtain⟨x,hx⟩:∃x,cs[k]?=some x:=⟨_,gE (by rw[HL.out];exact hlt)⟩
   rcases H1.out.2 with⟨e0,_⟩|⟨b,o,c,e1,hc1⟩
   ·omega
   ·simp only[sJ,true_and]at e1
    obtain⟨rfl,rfl⟩:=e1;have i0:=Rd.elem MC.cells_length hc1 k x hx 0 _ rfl;have i1:=Rd.elem MC.cells_length hc1 k x hx 1 _ rfl;rw[<-HW.out.1.cell (bL i0),Nat.add_zero]at i0;rw[<-HW.out.1.cell (bL i1)]at i1;have HX:Hid (cs[k]?=some x):=hx;clear hc1 hx;have nb:¬b=wr.heap.size:=Nat.ne_of_lt (bL i0);have mb:b<wr.heap.size:=bL i0;have HW2:Hid (Below w.heap.size w (wr.alloc (.cells #[.int .i64 x.type,.int .u32 x.word] 143))/\C6 (wr.alloc (.cells #[.int .i64 x.type,.int .u32 x.word] 143)) _ vr _ vf vt):=⟨Ac HW.out.1 lR (Aa _ _),HW.out.2.alloc _⟩
    go_wp2_with fail
    refine(Bp x.type _).mono ?_;rintro e u ⟨rfl,rfl⟩;clear i0 i1 nb mb p0 p1 p2 p3;cases t1:C9 x.type
    ·have HN:Hid (¬A3 cs):=fun e=>by have:=(e.2 k (by rw[HL.out];exact hlt) x HX.out).1;simp[t1]at this
     clear t1;go_wp2
     go_ret
     exact⟨.no HN.out,HW2.out.1⟩
    ·have HT1:Hid (C9 x.type=true):=t1
     clear t1;by_cases q1:x.type=1
     ·rw[q1]at HW2
      by_cases q2:1<x.word
      ·have HN:Hid (¬A3 cs):=fun e=>by have:=(e.2 k (by rw[HL.out];exact hlt) x HX.out).2 q1;omega
       go_wp2
       go_ret
       exact⟨.no HN.out,HW2.out.1⟩
      ·have HC:Hid (Bi x):=⟨HT1.out,fun _=>by omega⟩
       go_wp2
       go_roundw
       case rel=>exact⟨k+1,by omega,by go_num,BK HX.out HC.out HT.out,HW2⟩
       case measure=>simp[intOf];omega
     ·have q1':(x.type==1)=false:=by simpa using q1
      have HC:Hid (Bi x):=⟨HT1.out,fun e=>absurd e q1⟩;go_wp2
      go_roundw
      case rel=>exact⟨k+1,by omega,by go_num,BK HX.out HC.out HT.out,HW2⟩
      case measure=>simp[intOf];omega
  ·have hkn:n=k:=by omega
   subst hkn
   have HY:Hid (decide ((n:Int)<=64)=true↔A3 cs):=by
    show _↔_;rw[decide_eq_true_eq];exact⟨fun e=>⟨by rw[HL.out];omega,by rw[HL.out];exact HT.out⟩,fun e=>by have:=e.1;rw[HL.out]at this;omega⟩
   go_wp2
   go_ret
   exact⟨.of HY.out,HW.out.1⟩
structure MG where
 func:Int
 at_:Int
 base:Int
 locals:List MC
def Ju(w:World)(v:Value)(f:MG):Prop:=Rd w 2 v f.locals.length (f.locals.flatMap MC.cells)
def Ff(w:World)(base:Nat)(v:Value)(f:MG):Prop:=w.ownsRow base 128 2 v f.locals.length (f.locals.flatMap MC.cells)
def MG.small(f:MG):Prop:=f.locals.length<=1048576
def MG.fits(f:MG):Prop:=f.locals.length<=9223372036854775807
theorem Ff.rd{w:World}{base:Nat}{v:Value}{f:MG}(h:Ff w base v f):Ju w v f:=Rd.of_own h
theorem Ju.keep{w w':World}{v:Value}{f:MG}(h:Ju w v f){B:Nat}(hb:Below B w w')(hB:w.heap.size<=B):Ju w' v f:=Rd.keep h hb hB
theorem Ff.keep{w w':World}{base:Nat}{v:Value}{f:MG}(h:Ff w base v f){B:Nat}(hb:Below B w w')(hB:w.heap.size<=B):Ff w' base v f:=Ai h hb hB
theorem Ff.base{w:World}{base base':Nat}{v:Value}{f:MG}(h:Ff w base v f)(hb:base'<=base):Ff w base' v f:=AA h hb
theorem Ff.below{w:World}{base:Nat}{v:Value}{f:MG}(h:Ff w base v f){a:Addr}(ha:a.block<base)(u:Value):Ff (w.setCell a u) base v f:=ownsRow_setCell_below h ha u
def As(x:MG×Value):List Value:=[.int .i64 x.1.func,.int .i64 x.1.at_,.int .i64 x.1.base,x.2]
theorem Al(x:MG×Value):(As x).length=4:=rfl
def Jn(w:World)(s:Value)(fs:List MG):Prop:=∃xs:List (MG×Value),xs.map Prod.fst=fs/\Rd w 4 s fs.length (xs.flatMap As)/\∀x∈xs,Ju w x.2 x.1
def EZ(w:World)(base:Nat)(s:Value)(fs:List MG):Prop:=∃xs:List (MG×Value),xs.map Prod.fst=fs/\w.ownsRow base 123 4 s fs.length (xs.flatMap As)/\∀x∈xs,Ff w base x.2 x.1
theorem EZ.rd{w:World}{base:Nat}{s:Value}{fs:List MG}(h:EZ w base s fs):Jn w s fs:=by
 obtain⟨xs,h1,h2,h3⟩:=h;exact⟨xs,h1,Rd.of_own h2,fun x hx=>(h3 x hx).rd⟩
theorem Jn.keep{w w':World}{s:Value}{fs:List MG}(h:Jn w s fs){B:Nat}(hb:Below B w w')(hB:w.heap.size<=B):Jn w' s fs:=by
 obtain⟨xs,h1,h2,h3⟩:=h;exact⟨xs,h1,h2.keep hb hB,fun x hx=>(h3 x hx).keep hb hB⟩
theorem EZ.base{w:World}{base base':Nat}{s:Value}{fs:List MG}(h:EZ w base s fs)(hb:base'<=base):EZ w base' s fs:=by
 obtain⟨xs,h1,h2,h3⟩:=h;exact⟨xs,h1,AA h2 hb,fun x hx=>(h3 x hx).base hb⟩
theorem EZ.below{w:World}{base:Nat}{s:Value}{fs:List MG}(h:EZ w base s fs){a:Addr}(ha:a.block<base)(u:Value):EZ (w.setCell a u) base s fs:=by
 obtain⟨xs,h1,h2,h3⟩:=h;exact⟨xs,h1,ownsRow_setCell_below h2 ha u,fun x hx=>(h3 x hx).below ha u⟩
theorem Mg:(Tryz.prog.info? 123).map (fun i=>(i.zero,i.size,i.bytes))=some (some (.agg #[.int .i64 0,.int .i64 0,.int .i64 0,.slice none 0 0]),4,48):=by kernel_rfl
theorem MK{fs:List MG}{ys:List (MG×Value)}{k:Nat}{f:MG}(h:ys.map Prod.fst=fs.take k)(hf:fs[k]?=some f)(v:Value):(ys++[(f,v)]).map Prod.fst=fs.take (k+1):=by
 obtain⟨hlt,rfl⟩:=gI.1 hf;rw[List.map_append,h,List.take_succ_eq_append_getElem hlt];rfl
theorem Ll(v:Value)(f:MG)(w:World)(hs:f.small)(h:Ju w v f):
  Calls Tryz.prog 85 #[.agg #[.int .i64 f.func,.int .i64 f.at_,.int .i64 f.base,v]] w fun e w'=>∃a1 c1,e=.returned (.agg #[.int .i64 f.func,.int .i64 f.at_,.int .i64 f.base,.slice a1 f.locals.length c1])/\Ff w' w.heap.size (.slice a1 f.locals.length c1) f/\Below w.heap.size w w':=by
 have H:=h2 h hs;clear h hs;have F0:=Fr.of w 120 123 #[.int .i64 f.func,.int .i64 f.at_,.int .i64 f.base,v] #[.int .i64 0,.int .i64 0,.int .i64 0,.slice none 0 0] #[.int .i64 f.func,.int .i64 f.at_,.int .i64 f.base,.slice none 0 0] rfl rfl rfl;go_enter Tryz.func85,Tryz.ntmps85;go_wp2_with fail
 refine(Ev v f.locals _ H.out.2 (H.out.1.keep F0.bel lR)).mono ?_;rintro e u1 ⟨a1,c1,rfl,own1,b1⟩;have O1:=AM (AA own1 F0.siz);have F5:=F0.keep b1;clear own1 b1 F0;obtain⟨p0,p1,p2,p3,_⟩:=CE F5.par;obtain⟨o0,o1,o2,o3,z0,z1,z2,z3⟩:=CE F5.loc;obtain⟨q0,q1,q2,q3,y0,y1,y2,y3⟩:=CE F5.res;go_wp2_with fail
 clear p0 p1 p2 p3 o0 o1 o2 o3 z0 z1 z2 z3 q0 q1 q2 q3 y0 y1 y2 y3;have F6:=((((F5.set 3 (.slice a1 f.locals.length c1)).set' 0 (.int .i64 f.func)).set' 1 (.int .i64 f.at_)).set' 2 (.int .i64 f.base)).set' 3 (.slice a1 f.locals.length c1);simp only[List.set_cons_zero,List.set_cons_succ]at F6;obtain⟨q0,q1,q2,q3,_⟩:=CE F6.res
 have hall:∀{e:TypeId} {s:Value} {k n:Nat} {xs:List Value},u1.ownsRow (w.heap.size+3) e k s n xs->(((((u1.setCell ⟨w.heap.size+1+1,3,none⟩ (.slice a1 f.locals.length c1)).setCell ⟨w.heap.size+1,0,none⟩ (.int .i64 f.func)).setCell ⟨w.heap.size+1,1,none⟩ (.int .i64 f.at_)).setCell ⟨w.heap.size+1,2,none⟩ (.int .i64 f.base)).setCell ⟨w.heap.size+1,3,none⟩ (.slice a1 f.locals.length c1)).ownsRow w.heap.size e k s n xs:=fun h=>
  AA (Cc (Cc (Cc (Cc (Cc h _ _ (by omega) _) _ _ (by omega) _) _ _ (by omega) _) _ _ (by omega) _) _ _ (by omega) _) (by omega)
 exact bodyPost_ret (v:=.agg #[.int .i64 f.func,.int .i64 f.at_,.int .i64 f.base,.slice a1 f.locals.length c1]) (by simp[results,Tryz.results85,go_sem,q0,q1,q2,q3]) rfl ⟨a1,c1,rfl,hall O1.out,F6.bel⟩
structure Pp(w wr:World)(fs:List MG)(L k:Nat)(ys:List (MG×Value)):Prop where
 fst:ys.map Prod.fst=fs.take k
 len:ys.length=k
 row:wr.ownsRow w.heap.size 123 4 (.slice (some ⟨w.heap.size,0,none⟩) L L) L (EQ As [.int .i64 0,.int .i64 0,.int .i64 0,.slice none 0 0] ys L)
 els:∀y∈ys,Ff wr (w.heap.size+1) y.2 y.1
 bel:Below w.heap.size w wr
 siz:w.heap.size+1<=wr.heap.size
theorem Pp.places{w wr:World}{fs:List MG}{L k:Nat}{ys:List (MG×Value)}(h:Pp w wr fs L k ys)(hk:k<L){u:World}(hb:Below wr.heap.size wr u):
  u.cell? ⟨w.heap.size,k*4,none⟩=some (.int .i64 0)/\u.cell? ⟨w.heap.size,k*4+1,none⟩=some (.int .i64 0)/\u.cell? ⟨w.heap.size,k*4+2,none⟩=some (.int .i64 0)/\u.cell? ⟨w.heap.size,k*4+3,none⟩=some (.slice none 0 0)/\u.frozen? ⟨w.heap.size,k*4,none⟩=false/\u.frozen? ⟨w.heap.size,k*4+1,none⟩=false/\u.frozen? ⟨w.heap.size,k*4+2,none⟩=false/\u.frozen? ⟨w.heap.size,k*4+3,none⟩=false:=by
 have hown:=Ai h.row hb lR;rw[Cp As _ ys k L hk h.len]at hown;have hA:(ys.flatMap As).length=k*4:=by rw[Aw As 4 Al,h.len]
 have d0:=hown.cellAt (k*4) (by omega);have d1:=hown.cellAt (k*4+1) (by omega);have d2:=hown.cellAt (k*4+2) (by omega);have d3:=hown.cellAt (k*4+3) (by omega);rw[List.getElem?_append_right (by omega),hA]at d0 d1 d2 d3;rw[Nat.sub_self]at d0;rw[Nat.add_sub_cancel_left]at d1 d2 d3;exact⟨d0,d1,d2,d3,hown.frozenAt _,hown.frozenAt _,hown.frozenAt _,hown.frozenAt _⟩
theorem Pp.next{w wr:World}{fs:List MG}{L k:Nat}{ys:List (MG×Value)}(h:Pp w wr fs L k ys)(hk:k<L){u:World}(hb:Below wr.heap.size wr u){f:MG}(hf:fs[k]?=some f){v:Value}(ho:Ff u wr.heap.size v f):
  Pp w ((((u.setCell ⟨w.heap.size,k*4,none⟩ (.int .i64 f.func)).setCell ⟨w.heap.size,k*4+1,none⟩ (.int .i64 f.at_)).setCell ⟨w.heap.size,k*4+2,none⟩ (.int .i64 f.base)).setCell ⟨w.heap.size,k*4+3,none⟩ v) fs L (k+1) (ys++[(f,v)]):=by
 have hown:=Ai h.row hb lR;rw[Cp As _ ys k L hk h.len]at hown;have hA:(ys.flatMap As).length=k*4:=by rw[Aw As 4 Al,h.len]
 have s0:=(hown.stored (k*4) (.int .i64 f.func)).1;have s1:=(s0.stored (k*4+1) (.int .i64 f.at_)).1;have s2:=(s1.stored (k*4+2) (.int .i64 f.base)).1;have s3:=(s2.stored (k*4+3) v).1;rw[N6 _ _ _ _ _ _ _ _ _ _ (k*4) hA]at s3;refine⟨MK h.fst hf v,by simp[h.len],?_,?_,?_,?_⟩
 ·rw[Ew As _ ys k L (f,v) h.len]
  exact s3
 ·intro y hy
  have hy':Ff u (w.heap.size+1) y.2 y.1:=by
   rcases List.mem_append.1 hy with hy|hy
   ·exact(h.els y hy).keep hb lR
   ·simp only[List.mem_singleton]at hy
    subst hy;exact ho.base h.siz
  exact(((hy'.below (by simp) _).below (by simp) _).below (by simp) _).below (by simp) _
 ·exact((((h.bel.trans (hb.mono (by have:=h.siz;omega))).setCell lR _).setCell lR _).setCell lR _).setCell lR _
 ·have:=hb.size
  have:=h.siz;simp;omega
theorem I5(s:Value)(fs:List MG)(w:World)(hL:fs.length<=1048576)(hs:∀f∈fs,f.small)(h:Jn w s fs):
  Calls Tryz.prog 39 #[s] w fun e w'=>∃a c,e=.returned (.slice a fs.length c)/\EZ w' w.heap.size (.slice a fs.length c) fs/\Below w.heap.size w w':=by
 obtain⟨i0,hi,hz0,hz1,hz2⟩:=info_parts Mg;obtain⟨xs,hxs,hrd,hel⟩:=h;have hxl:xs.length=fs.length:=by rw[<-hxs];simp
 have H1:=h5 hrd hxs hel hs hxl;obtain⟨a1,c1,rfl⟩:=hrd.is_slice;clear hrd hxs hel hs hxl;generalize hLL:fs.length=L at hL H1;have HL:Hid (fs.length=L):=hLL;clear hLL;go_enter Tryz.func39,Tryz.ntmps39;go_wp2_with (at_make;refine wpList_make_full _ rfl _ _ 37 rfl w.heap.size 123 i0 (.agg #[.int .i64 0,.int .i64 0,.int .i64 0,.slice none 0 0]) 4 Tryz.underlying37 hi hz0 hz1 .i64 .i64 _ _ L rfl rfl rfl rfl (by rw[hz2];omega) (by unfold maxLen;omega) lR ?_;intro w1 hown hgrow);rw[EG As [.int .i64 0,.int .i64 0,.int .i64 0,.slice none 0 0] L (.agg #[.int .i64 0,.int .i64 0,.int .i64 0,.slice none 0 0]) 4 rfl rfl (by omega)]at hown;have hB:Below w.heap.size w w1:=(Below.refl _ _).grown hgrow lR (fun k hk=>by cases hk);have hst:Pp w w1 fs L 0 []:=⟨by simp,rfl,hown,(fun y hy=>by cases hy),hB,JK hown⟩;clear hgrow hown hB;go_loopw [4] (fun i wr=>∃k:Nat,k<=L/\i=.int .i64 k/\∃ys,Pp w wr fs L k ys) (fun i _=>L-(intOf i).toNat)
 case atStart=>exact⟨0,by omega,rfl,_,hst⟩
 case round=>
  clear hst;obtain⟨k,hk,rfl,ys,hst⟩:=hrel;by_cases hlt:k<L
  ·obtain⟨x,hx⟩:∃x,xs[k]?=some x:=⟨_,gE (by rw[H1.out.2.2.2.2];exact hlt)⟩
   have hfx:=AO H1.out.2.1 hx;have hrx:=H1.out.2.2.1 x (mG hx);have hsm:=H1.out.2.2.2.1 x.1 (mG hfx);rcases H1.out.1.2 with⟨e0,_⟩|⟨g,o,c,e1,hc1⟩
   ·omega
   ·simp only[sJ,true_and]at e1
    obtain⟨rfl,rfl⟩:=e1;have i0:=Rd.elem Al hc1 k x hx 0 _ rfl;have i1:=Rd.elem Al hc1 k x hx 1 _ rfl;have i2:=Rd.elem Al hc1 k x hx 2 _ rfl;have i3:=Rd.elem Al hc1 k x hx 3 _ rfl;rw[<-hst.bel.cell (bL i0)]at i0;rw[<-hst.bel.cell (bL i1)]at i1;rw[<-hst.bel.cell (bL i2)]at i2;rw[<-hst.bel.cell (bL i3)]at i3;rw[Nat.add_zero]at i0;obtain⟨f,v⟩:=x;have HX:=h3 hfx (hrx.keep hst.bel lR) hsm;clear hfx hrx hsm hx hc1;simp only[]at i0 i1 i2 i3;go_wp2_with fail
    refine(Ll v f wr HX.out.2.2 HX.out.2.1).mono ?_;rintro e u ⟨b1,d1,rfl,hou,hbu⟩;obtain⟨q0,q1,q2,q3,f0,f1,f2,f3⟩:=hst.places hlt hbu;have HN:Hid _:=hst.next hlt hbu HX.out.1 hou;clear hou hbu i0 i1 i2 i3 hst HX;go_wp2
    go_roundw
    case rel=>exact⟨k+1,by omega,by go_num,_,HN.out⟩
    case measure=>simp[intOf];omega
  ·have hkn:k=L:=by omega
   subst hkn;go_wp2
   go_ret
   refine⟨some ⟨w.heap.size,0,none⟩,k,rfl,⟨ys,?_,?_,fun y hy=>(hst.els y hy).base (by omega)⟩,hst.bel⟩
   ·rw[hst.fst,<-HL.out,List.take_length]
   ·have hrow:=hst.row
    rw[Fs _ _ _ _ hst.len]at hrow;rw[HL.out];exact hrow
theorem M7{z:Int}(h:Pk z):0<=z/\z<=4294967295:=by simpa[Pk,Lit.wf,IntKind.min,IntKind.max,IntKind.signed,IntKind.bits]using h
theorem DC(a b a' b':Int)(w:World):(binOp .eql 128 (.agg #[.int .i64 a,.int .u32 b]) (.agg #[.int .i64 a',.int .u32 b'])).run Tryz.prog w=.ok (.bool (decide (a=a'/\b=b'))) w:=by
 have u64:=Tryz.underlying2;have a64:=Tryz.isAgg2;have z64:=Tryz.sizeOf2;have u32:=Tryz.underlying126;have a32:=Tryz.isAgg126;have z32:=Tryz.sizeOf126;have hS:Tryz.prog.underlying 128=some (.struct (Tryz.prog.fieldsOf 128)):=by kernel_rfl
 have hp:Tryz.prog.stoodInHeld 128=false:=by kernel_rfl
 rw[run_eql_struct,show(10000:Nat)=9999+1 from rfl,run_equalIn_agg w 9999 128 _ _ hS hp];simp only[Program.fieldsOf,Tryz.underlying128];go_simp;by_cases h1:a=a'
 ·by_cases h2:b=b'<;>simp[*]
 ·simp[*]
theorem Fg(t x:Int)(w:World)(hx:0<=x):
  Calls Tryz.prog 133 #[.agg #[.int .i64 t,.int .u32 x]] w fun e w'=>Ao e (Bi ⟨t,x⟩)/\Below w.heap.size w w':=by
 by_cases h1:t=1
 ·subst h1
  have e0:∀w,(binOp .eql 128 (.agg #[.int .i64 1,.int .u32 x]) (.agg #[.int .i64 1,.int .u32 0])).run Tryz.prog w=.ok (.bool (decide (1=(1:Int)/\x=0))) w:=DC 1 x 1 0
  have e1:∀w,(binOp .eql 128 (.agg #[.int .i64 1,.int .u32 x]) (.agg #[.int .i64 1,.int .u32 1])).run Tryz.prog w=.ok (.bool (decide (1=(1:Int)/\x=1))) w:=DC 1 x 1 1
  by_cases h2:x=0
  ·have e2:decide (1=(1:Int)/\x=0)=true:=by simp[h2]
   have HY:Hid (Bi ⟨1,x⟩):=⟨rfl,fun _=>by simp only[];omega⟩;rw[e2]at e0;clear h2 e2 e1 hx;go_enter Tryz.func133,Tryz.ntmps133;go_wp2;go_ret;exact⟨.yes HY.out,Aa _ _⟩
  ·have e2:decide (1=(1:Int)/\x=0)=false:=by simp[h2]
   rw[e2]at e0;by_cases h3:x=1
   ·have e3:decide (1=(1:Int)/\x=1)=true:=by simp[h3]
    have HY:Hid (Bi ⟨1,x⟩):=⟨rfl,fun _=>by simp only[];omega⟩;rw[e3]at e1;clear h2 e2 h3 e3 hx;go_enter Tryz.func133,Tryz.ntmps133;go_wp2;go_ret;exact⟨.yes HY.out,Aa _ _⟩
   ·have e3:decide (1=(1:Int)/\x=1)=false:=by simp[h3]
    have HN:Hid (¬Bi ⟨1,x⟩):=fun e=>by have:=e.2 rfl;simp only[]at this;omega
    rw[e3]at e1;clear h2 e2 h3 e3 hx;go_enter Tryz.func133,Tryz.ntmps133;go_wp2
    go_ret
    exact⟨.no HN.out,Aa _ _⟩
 ·have h1':(t==1)=false:=by simpa using h1
  have HI:Hid (C9 t=true↔Bi ⟨t,x⟩):=⟨fun e=>⟨e,fun e=>absurd e h1⟩,fun e=>e.1⟩;go_enter Tryz.func133,Tryz.ntmps133;go_wp2_with fail
  refine(BO t _).mono ?_;rintro e u ⟨rfl,rfl⟩;go_wp2
  go_ret
  exact⟨.of HI.out,Aa _ _⟩
end Go.Proofs.YtlejplpkomddeaaGreat
