import Derived.Test.YtlejplpkomddeaaGreatR0
import Derived.Test.YtlejplpkomddeaaGreatR4
import Derived.Test.YtlejplpkomddeaaGreatR3
namespace Go.Proofs.YtlejplpkomddeaaGreat
open Go.ChangeShapes Go.WideShapes Go.ChangeAt Go.RowKit
set_option linter.unusedVariables false
set_option maxHeartbeats 4000000
set_option maxRecDepth 100000
structure BO(f:MF):Prop where
 par:f.params.length<=8
 loc:f.params.length+f.locals.length<=32
 pt:f.params.all CE=true
 lt:f.locals.all CE=true
 res:f.result=0\/CE f.result=true
 code0:¬f.code.length=0
 code1:f.code.length<=1024
def LR(f:MF):Prop:=f.params.length=0/\f.result=0
def Ce(f:MF)(main:Bool):Prop:=BO f/\(main=true->LR f)
theorem Lv(v:VF)(f:MF)(main:Bool)(w:World)(hs:f.small)(h:CP w v f):
 Calls Tryz.prog 119 #[.agg #[v.p,.int .i64 f.result,v.l,v.c],.bool main] w fun e w'=>Ar e (Ce f main)/\Below w.heap.size w w':=by
 have H1:Hid (CP w v f/\f.small):=⟨h,hs⟩
 obtain⟨a1,c1,e1⟩:=h.1.is_slice;obtain⟨a2,c2,e2⟩:=h.2.1.is_slice;obtain⟨a3,c3,e3⟩:=h.2.2.is_slice;obtain⟨vp,vl,vc⟩:=v;obtain⟨s1,s2,s3⟩:=hs;simp only[]at e1 e2 e3;subst e1 e2 e3;clear h;have HB:Hid (Below w.heap.size w (w.alloc (.cells #[.slice a1 f.params.length c1,.int .i64 f.result,.slice a2 f.locals.length c2,.slice a3 f.code.length c3] 131))):=Aa _ _;by_cases q1:8<f.params.length
 ·have HN:Hid (¬(Ce f main)):=fun e=>absurd e.1.par (by omega)
  clear H1;generalize f.params.length=n1 at*;go_enter Tryz.func119,Tryz.ntmps119;go_wp2
  go_ret
  exact⟨.no HN.out,HB.out⟩
 by_cases q2:32<f.params.length+f.locals.length
 ·have HN:Hid (¬(Ce f main)):=fun e=>absurd e.1.loc (by omega)
  clear H1;generalize f.params.length=n1 at*;generalize f.locals.length=n2 at*;go_enter Tryz.func119,Tryz.ntmps119;go_wp2
  go_ret
  exact⟨.no HN.out,HB.out⟩
 have q1':¬(8:Int)<(f.params.length:Int):=by omega
 have q2':¬(32:Int)<(f.params.length:Int)+(f.locals.length:Int):=by omega
 have HQ:Hid (f.params.length<=8/\f.params.length+f.locals.length<=32):=⟨by omega,by omega⟩
 go_enter Tryz.func119,Tryz.ntmps119;go_wp2_with fail
 refine(Fq _ f.params _ H1.out.2.1 (H1.out.1.1.keep HB.out lR)).mono ?_;rintro e u ⟨rfl,rfl⟩;cases t1:f.params.all CE
 ·have HN:Hid (¬(Ce f main)):=fun e=>by have:=e.1.pt;simp[t1]at this
  clear t1;go_wp2
  go_ret
  exact⟨.no HN.out,HB.out⟩
 have HT1:Hid (f.params.all CE=true):=t1;clear t1;go_wp2_with fail
 refine(Fq _ f.locals _ H1.out.2.2.1 (H1.out.1.2.1.keep HB.out lR)).mono ?_;rintro e u ⟨rfl,rfl⟩;cases t1:f.locals.all CE
 ·have HN:Hid (¬(Ce f main)):=fun e=>by have:=e.1.lt;simp[t1]at this
  clear t1;go_wp2
  go_ret
  exact⟨.no HN.out,HB.out⟩
 have HT2:Hid (f.locals.all CE=true):=t1;clear t1;generalize hR:f.result=R at*;generalize h1:f.params.length=n1 at*;generalize h3:f.code.length=n3 at*;have HE:Hid (f.result=R/\f.params.length=n1/\f.code.length=n3):=⟨hR,h1,h3⟩
 clear hR h1 h3 q1 q2;by_cases q3:R=0
 ·subst q3
  by_cases q4:n3=0
  ·subst q4
   have HN:Hid (¬(Ce f main)):=fun e=>e.1.code0 HE.out.2.2
   go_wp2
   go_ret
   exact⟨.no HN.out,HB.out⟩
  have q4':((n3:Int)==0)=false:=by simpa using q4
  by_cases q5:1024<n3
  ·have q5':(1024:Int)<(n3:Int):=by omega
   have HN:Hid (¬(Ce f main)):=fun e=>absurd e.1.code1 (by rw[HE.out.2.2];omega)
   go_wp2
   go_ret
   exact⟨.no HN.out,HB.out⟩
  have q5':¬(1024:Int)<(n3:Int):=by omega
  cases main
  ·have HY:Hid (Ce f false):=⟨⟨by rw[HE.out.2.1];exact HQ.out.1,by rw[HE.out.2.1];exact HQ.out.2,HT1.out,HT2.out,.inl HE.out.1,by rw[HE.out.2.2];exact q4,by rw[HE.out.2.2];omega⟩,fun h=>by cases h⟩
   go_wp2
   go_ret
   exact⟨.yes HY.out,HB.out⟩
  ·by_cases q6:n1=0
   ·subst q6
    have HY:Hid (Ce f true):=⟨⟨by rw[HE.out.2.1];exact HQ.out.1,by rw[HE.out.2.1];exact HQ.out.2,HT1.out,HT2.out,.inl HE.out.1,by rw[HE.out.2.2];exact q4,by rw[HE.out.2.2];omega⟩,fun _=>⟨HE.out.2.1,HE.out.1⟩⟩;go_wp2;go_ret;exact⟨.yes HY.out,HB.out⟩
   ·have q6':((n1:Int)==0)=false:=by simpa using q6
    have HN:Hid (¬(Ce f true)):=fun e=>q6 (by rw[<-HE.out.2.1];exact(e.2 rfl).1)
    go_wp2
    go_ret
    exact⟨.no HN.out,HB.out⟩
 ·have q3':(R==0)=false:=by simpa using q3
  go_wp2_with fail
  refine(BH R _).mono ?_;rintro e u ⟨rfl,rfl⟩;cases t1:CE R
  ·have HN:Hid (¬(Ce f main)):=fun e=>by have:=e.1.res;rw[HE.out.1]at this;simp[q3,t1]at this
   go_wp2
   go_ret
   exact⟨.no HN.out,HB.out⟩
  have HT3:Hid (CE R=true):=t1;clear t1;by_cases q4:n3=0
  ·subst q4
   have HN:Hid (¬(Ce f main)):=fun e=>e.1.code0 HE.out.2.2
   go_wp2
   go_ret
   exact⟨.no HN.out,HB.out⟩
  have q4':((n3:Int)==0)=false:=by simpa using q4
  by_cases q5:1024<n3
  ·have q5':(1024:Int)<(n3:Int):=by omega
   have HN:Hid (¬(Ce f main)):=fun e=>absurd e.1.code1 (by rw[HE.out.2.2];omega)
   go_wp2
   go_ret
   exact⟨.no HN.out,HB.out⟩
  have q5':¬(1024:Int)<(n3:Int):=by omega
  cases main
  ·have HY:Hid (Ce f false):=⟨⟨by rw[HE.out.2.1];exact HQ.out.1,by rw[HE.out.2.1];exact HQ.out.2,HT1.out,HT2.out,.inr (by rw[HE.out.1];exact HT3.out),by rw[HE.out.2.2];exact q4,by rw[HE.out.2.2];omega⟩,fun h=>by cases h⟩
   go_wp2
   go_ret
   exact⟨.yes HY.out,HB.out⟩
  ·by_cases q6:n1=0
   ·subst q6
    have HN:Hid (¬(Ce f true)):=fun e=>q3 (by rw[<-HE.out.1];exact(e.2 rfl).2)
    go_wp2
    go_ret
    exact⟨.no HN.out,HB.out⟩
   ·have q6':((n1:Int)==0)=false:=by simpa using q6
    have HN:Hid (¬(Ce f true)):=fun e=>q6 (by rw[<-HE.out.2.1];exact(e.2 rfl).1)
    go_wp2
    go_ret
    exact⟨.no HN.out,HB.out⟩
theorem Hb(W0:World)(base:Nat)(s:Value)(rs:List (List Int))(k0:Int)(w:World)(hn:rs.length<=1048576)(hr:∀r∈rs,r.length<=1048576)(h0:0<=k0)(h1:k0<=281474976710656)(h:Fm W0 base s rs)(hs:Bm W0 w):
 Calls Tryz.prog 52 #[s,.int .i64 k0] w fun e w'=>(∃k1,e=.returned (.int .i64 k1)/\k0<=k1/\k1<=k0+1048576*(rs.length:Int))/\Ba base W0.heap.size w w':=by
 obtain⟨xs,hxs,hrow,hel⟩:=h;have hxl:xs.length=rs.length:=by rw[<-hxs];simp
 have H:Hid (W0.ownsRow base 113 1 s rs.length (xs.flatMap Cu)/\Bm W0 w/\xs.map Prod.fst=rs/\(∀x∈xs,W0.ownsRow base 2 1 x.2 x.1.length (x.1.flatMap Ae))/\(∀r∈rs,r.length<=1048576)/\xs.length=rs.length):=⟨hrow,hs,hxs,hel,hr,hxl⟩
 clear hs hxs hel hr hxl;rcases At hrow with⟨rfl,hz⟩|⟨g,c,rfl⟩
 ·clear hrow
  go_enter Tryz.func52,Tryz.ntmps52;go_wp2
  go_loopw [1,5] (fun q i wr=>q=.int .i64 k0/\i=.int .i64 0/\wr=w) (fun _ _ _=>0)
  case atStart=>exact⟨rfl,rfl,rfl⟩
  case round=>
   obtain⟨rfl,rfl,rfl⟩:=hrel;go_wp2
   go_ret
   exact⟨⟨k0,rfl,by omega,by omega⟩,Ba.refl _ _ _⟩
 ·clear hrow
  generalize hLL:rs.length=n at hn H⊢;have HL:Hid (rs.length=n):=hLL;clear hLL;go_enter Tryz.func52,Tryz.ntmps52;go_wp2
  go_loopw [1,5] (fun q i wr=>∃(k:Nat) (kk:Int),k<=n/\q=.int .i64 kk/\k0<=kk/\kk<=k0+1048576*k/\i=.int .i64 k/\Hid (Ba base W0.heap.size w wr)) (fun _ i _=>n-(intOf i).toNat)
  case atStart=>exact⟨0,k0,by omega,rfl,by omega,by omega,rfl,Ba.refl _ _ _⟩
  case round=>
   obtain⟨k,kk,hk,rfl,q0,q1,rfl,HM⟩:=hrel;by_cases hlt:k<n
   ·obtain⟨⟨r,v⟩,hx⟩:∃x,xs[k]?=some x:=⟨_,gE (by rw[H.out.2.2.2.2.2];exact hlt)⟩
    have e1:=Bh H.out.2.2.1 hx;have hrl:=H.out.2.2.2.2.1 _ (mG e1);have hrr:=H.out.2.2.2.1 _ (mG hx);simp only[]at hrl hrr;have f0:=AF Cu 1 AO xs k 0 _ hx (by omega);rw[Nat.mul_one,Nat.add_zero]at f0;obtain⟨y0,c0,a0,z0,_⟩:=Bf H.out.1 (H.out.2.1.trans HM.out.shaped) f0;obtain⟨av,cv,rfl⟩:=Al hrr;obtain rfl:=DM.slice a0;have HR:=h2 hrr hrl;clear e1 hrr f0 hx a0;go_wp2_with fail
    refine(Eh W0 base (.slice av r.length cv) r kk _ HR.out.2 (by omega) (by omega) HR.out.1 (H.out.2.1.trans HM.out.shaped)).mono ?_;rintro e u ⟨rfl,hm⟩;have HN:=AS (HM.out.trans hm);clear hm c0 z0;go_wp2
    go_roundw
    case rel=>exact⟨k+1,kk+(r.length:Int),by omega,rfl,by omega,by omega,by go_num,HN⟩
    case measure=>simp[intOf];omega
   ·have hkn:k=n:=by omega
    subst hkn;go_wp2
    go_ret
    exact⟨⟨kk,rfl,by omega,by omega⟩,HM.out⟩
theorem Is(W0:World)(base:Nat)(s:Value)(rs:List MF)(k0:Int)(w:World)(hn:rs.length<=1048576)(hr:∀r∈rs,r.small)(h0:0<=k0)(h1:k0<=281474976710656)(h:DK W0 base s rs)(hs:Bm W0 w):
 Calls Tryz.prog 54 #[s,.int .i64 k0] w fun e w'=>(∃k1,e=.returned (.int .i64 k1)/\k0<=k1/\k1<=k0+6291457*(rs.length:Int))/\Ba base W0.heap.size w w':=by
 obtain⟨xs,hxs,hrow,hel⟩:=h;have hxl:xs.length=rs.length:=by rw[<-hxs];simp
 have H:Hid (W0.ownsRow base 131 4 s rs.length (xs.flatMap BK)/\Bm W0 w/\xs.map Prod.fst=rs/\(∀x∈xs,FD W0 base x.2 x.1)/\(∀r∈rs,r.small)/\xs.length=rs.length):=⟨hrow,hs,hxs,hel,hr,hxl⟩
 clear hs hxs hel hr hxl;rcases At hrow with⟨rfl,hz⟩|⟨g,c,rfl⟩
 ·clear hrow
  go_enter Tryz.func54,Tryz.ntmps54;go_wp2
  go_loopw [1,5] (fun q i wr=>q=.int .i64 k0/\i=.int .i64 0/\wr=w) (fun _ _ _=>0)
  case atStart=>exact⟨rfl,rfl,rfl⟩
  case round=>
   obtain⟨rfl,rfl,rfl⟩:=hrel;go_wp2
   go_ret
   exact⟨⟨k0,rfl,by omega,by omega⟩,Ba.refl _ _ _⟩
 ·clear hrow
  generalize hLL:rs.length=n at hn H⊢;have HL:Hid (rs.length=n):=hLL;clear hLL;go_enter Tryz.func54,Tryz.ntmps54;go_wp2
  go_loopw [1,5] (fun q i wr=>∃(k:Nat) (kk:Int),k<=n/\q=.int .i64 kk/\k0<=kk/\kk<=k0+6291457*k/\i=.int .i64 k/\Hid (Ba base W0.heap.size w wr)) (fun _ i _=>n-(intOf i).toNat)
  case atStart=>exact⟨0,k0,by omega,rfl,by omega,by omega,rfl,Ba.refl _ _ _⟩
  case round=>
   obtain⟨k,kk,hk,rfl,q0,q1,rfl,HM⟩:=hrel;by_cases hlt:k<n
   ·obtain⟨⟨r,⟨vp,vl,vc⟩⟩,hx⟩:∃x,xs[k]?=some x:=⟨_,gE (by rw[H.out.2.2.2.2.2];exact hlt)⟩
    have e1:=Bh H.out.2.2.1 hx;have hrl:=H.out.2.2.2.2.1 _ (mG e1);have hrr:=H.out.2.2.2.1 _ (mG hx);simp only[]at hrl;obtain⟨ap,cp,ep⟩:=Al hrr.1;obtain⟨al,cl,el⟩:=Al hrr.2.1;obtain⟨ac,cc,ec⟩:=Al hrr.2.2;simp only[]at ep el ec;subst ep el ec;have f0:=AF BK 4 Ai xs k 0 _ hx (by omega);have f1:=AF BK 4 Ai xs k 1 _ hx (by omega);have f2:=AF BK 4 Ai xs k 2 _ hx (by omega);have f3:=AF BK 4 Ai xs k 3 _ hx (by omega);rw[Nat.add_zero]at f0;have HR:=AS hrr
    have FF:Hid (∀{u:World},Bm W0 u->u.cell? ⟨g,k*4,none⟩=some (.slice ap r.params.length cp)/\u.cell? ⟨g,k*4+2,none⟩=some (.slice al r.locals.length cl)/\u.cell? ⟨g,k*4+3,none⟩=some (.slice ac r.code.length cc)/\(∃y,u.cell? ⟨g,k*4+1,none⟩=some y)/\u.frozen? ⟨g,k*4+1,none⟩=false/\∀z,Ba base W0.heap.size u (u.setCell ⟨g,k*4+1,none⟩ (.int .i64 z))):=fun hsu=>by
     obtain⟨y0,c0,a0,_,_⟩:=Bf H.out.1 hsu f0;obtain⟨y1,c1,a1,z1,m1⟩:=Bf H.out.1 hsu f1;obtain⟨y2,c2,a2,_,_⟩:=Bf H.out.1 hsu f2;obtain⟨y3,c3,a3,_,_⟩:=Bf H.out.1 hsu f3;obtain rfl:=DM.slice a0;obtain rfl:=DM.slice a2;obtain rfl:=DM.slice a3;exact⟨c0,c2,c3,⟨y1,c1⟩,z1,fun z=>m1 base W0.heap.size _ lR lR (.inr ⟨.i64,r.result,z,rfl,rfl⟩)⟩
    obtain⟨s1,s2,s3⟩:=hrl;clear e1 hrr f0 f1 f2 f3 hx;have S0:=H.out.2.1.trans HM.out.shaped;obtain⟨c0,c2,c3,⟨y1,c1⟩,z1,_⟩:=FF.out S0;clear S0;go_wp2_with fail
    refine(Eh W0 base (.slice ap r.params.length cp) r.params kk _ s1 (by omega) (by omega) HR.out.1 (H.out.2.1.trans HM.out.shaped)).mono ?_;rintro e u1 ⟨rfl,hm⟩;have HM1:=AS (HM.out.trans hm);clear hm c0 c1 c2 c3 z1 y1;have S0:=H.out.2.1.trans HM1.out.shaped;obtain⟨c0,c2,c3,⟨y1,c1⟩,z1,m1⟩:=FF.out S0;have HM2:Hid (Ba _ _ w (u1.setCell ⟨g,k*4+1,none⟩ (.int .i64 (kk+(r.params.length:Int))))):=HM1.out.trans (m1 _);obtain⟨_,t2,_⟩:=FF.out (H.out.2.1.trans HM2.out.shaped);clear m1 S0;go_wp2_with fail
    refine(Eh W0 base (.slice al r.locals.length cl) r.locals (kk+(r.params.length:Int)+1) _ s2 (by omega) (by omega) HR.out.2.1 (H.out.2.1.trans HM2.out.shaped)).mono ?_;rintro e u2 ⟨rfl,hm⟩;have HM3:=AS (HM2.out.trans hm);clear hm c0 c1 c2 c3 z1 y1 t2;have S0:=H.out.2.1.trans HM3.out.shaped;obtain⟨c0,c2,c3,⟨y1,c1⟩,z1,m1⟩:=FF.out S0;clear m1 S0;go_wp2_with fail
    refine(Hs W0 base (.slice ac r.code.length cc) r.code (kk+(r.params.length:Int)+1+(r.locals.length:Int)) _ s3 (by omega) (by omega) HR.out.2.2 (H.out.2.1.trans HM3.out.shaped)).mono ?_;rintro e u3 ⟨rfl,hm⟩;have HN:=AS (HM3.out.trans hm);clear hm c0 c1 c2 c3 z1 y1;go_wp2
    go_roundw
    case rel=>exact⟨k+1,kk+(r.params.length:Int)+1+(r.locals.length:Int)+4*(r.code.length:Int),by omega,rfl,by omega,by omega,by go_num,HN⟩
    case measure=>simp[intOf];omega
   ·have hkn:k=n:=by omega
    subst hkn;go_wp2
    go_ret
    exact⟨⟨kk,rfl,by omega,by omega⟩,HM.out⟩
theorem Hd(W0:World)(base:Nat)(v:VP)(p:MP)(w:World)(hn:p.small)(h:FL W0 base v p)(hb:Below W0.heap.size W0 w):
 Calls Tryz.prog 13 #[.agg #[v.r,v.k,v.f,v.t],.int .i64 1] w fun e w'=>(∃k1:Int,e=.returned (.int .i64 k1)/\0<=k1/\k1<=17592186044416)/\Dn base W0.heap.size w w':=by
 have H:=h2 hn h;clear hn h;have hA:(w.alloc (.cells #[v.r,v.k,v.f,v.t] 45)).ownsRow w.heap.size 45 4 (.slice (some ⟨w.heap.size,0,none⟩) 1 1) 1 [v.r,v.k,v.f,v.t]:=World.ownsRow_lit (base:=w.heap.size) (e:=45) (size:=4) w #[v.r,v.k,v.f,v.t] 1 lR (by unfold maxLen;omega) (by simp);have HS:Hid (Bm W0 (w.alloc (.cells #[v.r,v.k,v.f,v.t] 45))):=(Bm.of_below hb).trans (Bm.of_below ((Below.refl _ _).alloc lR _));have hWs:=hb.size;have HB:Hid (Below w.heap.size w (w.alloc (.cells #[v.r,v.k,v.f,v.t] 45))):=(Below.refl _ _).alloc lR _;go_enter Tryz.func13,Tryz.ntmps13;go_wp2_with fail;generalize w.alloc (.cells #[v.r,v.k,v.f,v.t] 45)=W1 at hA HS HB⊢;refine(Hb W0 base v.r p.regions 1 _ H.out.1.regions H.out.1.region (by omega) (by omega) H.out.2.regions HS.out).mono ?_;rintro e u1 ⟨⟨k1,rfl,k10,k11⟩,m1⟩;have HM1:=AS m1;have hl1:=H.out.1.regions;have hl2:=H.out.1.consts;have hl3:=H.out.1.funcs;have hl4:=H.out.1.certs
 have keep:∀{u:World},Ba base W0.heap.size W1 u->∀(i:Nat) x,W1.cell? ⟨w.heap.size,i,none⟩=some x->u.cell? ⟨w.heap.size,i,none⟩=some x:=fun hm i x hx=>by
  have:=hm.out w.heap.size (.inr hWs);unfold World.cell? at*;rw[this];exact hx
 have HK:Hid (∀{u:World},Ba base W0.heap.size W1 u->u.cell? ⟨w.heap.size,0,none⟩=some v.r/\u.cell? ⟨w.heap.size,1,none⟩=some v.k/\u.cell? ⟨w.heap.size,2,none⟩=some v.f/\u.cell? ⟨w.heap.size,3,none⟩=some v.t):=fun hm=>⟨keep hm 0 _ (hA.cellAt 0 (by omega)),keep hm 1 _ (hA.cellAt 1 (by omega)),keep hm 2 _ (hA.cellAt 2 (by omega)),keep hm 3 _ (hA.cellAt 3 (by omega))⟩
 clear m1 keep hA;obtain⟨p0,p1,p2,p3⟩:=HK.out HM1.out;go_wp2_with fail
 refine(Ia W0 base v.k p.consts k1 _ hl2 (by omega) (by omega) H.out.2.consts (HS.out.trans HM1.out.shaped)).mono ?_;rintro e u2 ⟨rfl,m2⟩;have HM2:=AS (HM1.out.trans m2);clear m2 p0 p1 p2 p3;obtain⟨p0,p1,p2,p3⟩:=HK.out HM2.out;go_wp2_with fail
 refine(Is W0 base v.f p.funcs (k1+2*(p.consts.length:Int)) _ hl3 H.out.1.func (by omega) (by omega) H.out.2.funcs (HS.out.trans HM2.out.shaped)).mono ?_;rintro e u3 ⟨⟨k3,rfl,k30,k31⟩,m3⟩;have HM3:=AS (HM2.out.trans m3);clear m3 p0 p1 p2 p3;obtain⟨p0,p1,p2,p3⟩:=HK.out HM3.out;go_wp2_with fail
 refine(IA W0 base v.t p.certs k3 _ hl4 (by omega) (by omega) H.out.2.certs (HS.out.trans HM3.out.shaped)).mono ?_;rintro e u4 ⟨rfl,m4⟩;have HM4:=AS (HM3.out.trans m4);clear m4 p0 p1 p2 p3;go_wp2
 go_ret
 exact⟨⟨_,rfl,by omega,by omega⟩,Dn.of HB.out lR HM4.out⟩
theorem DJ:(Tryz.prog.info? 128).map (fun i=>(i.zero,i.size,i.bytes))=some (some (.agg #[.int .i64 0,.int .u32 0]),2,16):=by kernel_rfl
theorem JV(x:MC)(w:World):
 Calls Tryz.prog 101 #[.agg #[.int .i64 x.type,.int .u32 x.word],.agg #[.int .i64 x.type,.int .u32 x.word]] w fun e w'=>e=.returned (.bool true)/\Below w.heap.size w w':=by
 go_enter Tryz.func101,Tryz.ntmps101;go_wp2
 go_ret
 exact⟨rfl,(((Below.refl _ _).alloc lR _).alloc (by simp) _)⟩
theorem Ex(s s':Value)(ys:List MC)(w:World)(hn:ys.length<=1048576)(h:Rd w 2 s ys.length (ys.flatMap MC.cells))(h':Rd w 2 s' ys.length (ys.flatMap MC.cells)):
 Calls Tryz.prog 46 #[s,s'] w fun e w'=>e=.returned (.bool true)/\Below w.heap.size w w':=by
 have H1:=AS h;have H2:=AS h';obtain⟨a1,c1,rfl⟩:=h.is_slice;obtain⟨a2,c2,rfl⟩:=h'.is_slice;clear h h';generalize hLL:ys.length=n at hn H1 H2;have HL:Hid (ys.length=n):=hLL;clear hLL;go_enter Tryz.func46,Tryz.ntmps46;go_wp2
 go_loopw [5] (fun i wr=>∃k:Nat,k<=n/\i=.int .i64 k/\Below w.heap.size w wr) (fun i _=>n-(intOf i).toNat)
 case atStart=>exact⟨0,by omega,rfl,Below.refl _ _⟩
 case round=>
  obtain⟨k,hk,rfl,hbel⟩:=hrel;have HB:Hid (Below w.heap.size w wr):=hbel;clear hbel;by_cases hlt:k<n
  ·obtain⟨x,hx⟩:∃x,ys[k]?=some x:=⟨_,gE (by rw[HL.out];exact hlt)⟩
   rcases H1.out.2 with⟨e0,_⟩|⟨g,o,c,e1,hc1⟩
   ·omega
   ·rcases H2.out.2 with⟨e0,_⟩|⟨g',o',c',e2,hc2⟩
    ·omega
    ·simp only[sJ,true_and]at e1 e2
     obtain⟨rfl,rfl⟩:=e1;obtain⟨rfl,rfl⟩:=e2;have i0:=Rd.elem MC.cells_length hc1 k x hx 0 _ rfl;have i1:=Rd.elem MC.cells_length hc1 k x hx 1 _ rfl;have j0:=Rd.elem MC.cells_length hc2 k x hx 0 _ rfl;have j1:=Rd.elem MC.cells_length hc2 k x hx 1 _ rfl;rw[<-HB.out.cell (bL i0),Nat.add_zero]at i0;rw[<-HB.out.cell (bL i1)]at i1;rw[<-HB.out.cell (bL j0),Nat.add_zero]at j0;rw[<-HB.out.cell (bL j1)]at j1;clear hc1 hc2 hx;go_wp2_with fail
     go_region_with (go_at_call 101;refine(JV x _).mono ?_;rintro e u ⟨rfl,hbu⟩)
     all_goals
      have HB2:Hid (Below w.heap.size w u):=HB.out.trans (As hbu HB.out.size);clear hbu HB i0 i1 j0 j1;go_wp2
      go_roundw
      case rel=>exact⟨k+1,by omega,by go_num,HB2.out⟩
      case measure=>simp[intOf];omega
  ·go_wp2
   go_ret
   exact⟨rfl,HB.out⟩
set_option maxHeartbeats 2000000 in
set_option maxRecDepth 100000 in
theorem DT(W0:World)(base:Nat)(s:Value)(cs:List Int)(k0:Int)(w:World)(hn:cs.length<=1048576)(h0:0<=k0)(h1:k0<=1152921504606846976)(h:W0.ownsRow base 126 1 s cs.length (cs.flatMap Bs))(hs:Bm W0 w):
 Calls Tryz.prog 67 #[s,.int .i64 k0] w fun e w'=>e=.returned (.int .i64 (k0+(cs.length:Int)))/\Ba base W0.heap.size w w':=by
 have H:Hid (W0.ownsRow base 126 1 s cs.length (cs.flatMap Bs)/\Bm W0 w):=⟨h,hs⟩
 rcases At h with⟨rfl,hz⟩|⟨g,c,rfl⟩
 . clear h hs
   rw[hz];go_enter Tryz.func67,Tryz.ntmps67;go_wp2
   go_loopw [1,5] (fun q i wr=>q=.int .i64 k0/\i=.int .i64 0/\wr=w) (fun _ _ _=>0)
   case atStart=>exact⟨rfl,rfl,rfl⟩
   case round=>
    obtain⟨rfl,rfl,rfl⟩:=hrel;go_wp2
    go_ret
    exact⟨by simp,Ba.refl _ _ _⟩
 . clear h hs
   generalize hLL:cs.length=n at hn H⊢;have HL:Hid (cs.length=n):=hLL;clear hLL;go_enter Tryz.func67,Tryz.ntmps67;go_wp2
   go_loopw [1,5] (fun q i wr=>∃k:Nat,k<=n/\q=.int .i64 (k0+k)/\i=.int .i64 k/\Hid (Ba base W0.heap.size w wr)) (fun _ i _=>n-(intOf i).toNat)
   case atStart=>exact⟨0,by omega,by simp,rfl,Ba.refl _ _ _⟩
   case round=>
    obtain⟨k,hk,rfl,rfl,HM⟩:=hrel;by_cases hlt:k<n
    . obtain⟨x,hx⟩:∃x,cs[k]?=some x:=⟨_,gE (by rw[HL.out];exact hlt)⟩
      have S0:=H.out.2.trans HM.out.shaped;have f0:=AF Bs 1 Bx cs k 0 x hx (by omega);rw[Nat.mul_one,Nat.add_zero]at f0;obtain⟨y0,c0,a0,z0,m0⟩:=Bf H.out.1 (S0) f0;have M0:=m0 base W0.heap.size (.int .u32 ((k0+k) % 4294967296)) (Nat.le_refl _) (Nat.le_refl _) (.inr ⟨.u32,x,_,rfl,rfl⟩);have HN:Hid (Ba base W0.heap.size w _):=(HM.out).trans M0;clear a0 m0 M0 f0 hx S0;go_wp2
      go_roundw
      case rel=>exact⟨k+1,by omega,by go_num,by go_num,HN⟩
      case measure=>simp[intOf];omega
    . have hkn:k=n:=by omega
      subst hkn;go_wp2
      go_ret
      exact⟨rfl,HM.out⟩
set_option maxHeartbeats 2000000 in
set_option maxRecDepth 100000 in
theorem Hu(W0:World)(base:Nat)(v:VM)(m:MM)(k0:Int)(w:World)(hn:m.small)(h0:0<=k0)(h1:k0<=281474976710656)(h:GE W0 base v m)(hs:Bm W0 w):
 Calls Tryz.prog 21 #[.agg #[v.i,v.o,v.k],.int .i64 k0] w fun e w'=>(∃k1:Int,e=.returned (.int .i64 k1)/\0<=k1)/\Dn base W0.heap.size w w':=by
 have H:Hid (m.small/\GE W0 base v m):=⟨hn,h⟩
 clear hn h;have hA:(w.alloc (.cells #[v.i,v.o,v.k] 58)).ownsRow w.heap.size 58 3 (.slice (some ⟨w.heap.size,0,none⟩) 1 1) 1 [v.i,v.o,v.k]:=World.ownsRow_lit (base:=w.heap.size) (e:=58) (size:=3) w #[v.i,v.o,v.k] 1 (Nat.le_refl _) (by unfold maxLen;omega) (by simp);have HS:Hid (Bm W0 (w.alloc (.cells #[v.i,v.o,v.k] 58))):=hs.trans (Bm.of_below ((Below.refl _ _).alloc (Nat.le_refl _) _));have hWs:=hs.size;have HB:Hid (Below w.heap.size w (w.alloc (.cells #[v.i,v.o,v.k] 58))):=(Below.refl _ _).alloc (Nat.le_refl _) _;go_enter Tryz.func21,Tryz.ntmps21;go_wp2_with fail;generalize w.alloc (.cells #[v.i,v.o,v.k] 58)=W1 at hA HS HB⊢;have hl1:=H.out.1.ins;have hl2:=H.out.1.outs;have hl3:=H.out.1.keeps;refine(DT W0 base v.i m.ins k0 _ hl1 (by omega) (by omega) H.out.2.ins HS.out).mono ?_;rintro e u1 ⟨rfl,m1⟩;have HM1:Hid (Ba base W0.heap.size W1 u1):=m1
 have keep:∀{u:World},Ba base W0.heap.size W1 u->∀(i:Nat) x,W1.cell? ⟨w.heap.size,i,none⟩=some x->u.cell? ⟨w.heap.size,i,none⟩=some x:=fun hm i x hx=>by
  have:=hm.out w.heap.size (.inr hWs);unfold World.cell? at*;rw[this];exact hx
 have HK:Hid (∀{u:World},Ba base W0.heap.size W1 u->u.cell? ⟨w.heap.size,0,none⟩=some v.i/\u.cell? ⟨w.heap.size,1,none⟩=some v.o/\u.cell? ⟨w.heap.size,2,none⟩=some v.k):=fun hm=>⟨keep hm 0 _ (hA.cellAt 0 (by omega)),keep hm 1 _ (hA.cellAt 1 (by omega)),keep hm 2 _ (hA.cellAt 2 (by omega))⟩
 clear m1 keep hA;obtain⟨p0,p1,p2⟩:=HK.out HM1.out;go_wp2_with fail
 refine(DT W0 base v.o m.outs (k0+(m.ins.length:Int)) _ hl2 (by omega) (by omega) H.out.2.outs (HS.out.trans HM1.out.shaped)).mono ?_;rintro e u2 ⟨rfl,m2⟩;have HM2:Hid (Ba base W0.heap.size W1 u2):=HM1.out.trans m2;clear m2 p0 p1 p2;obtain⟨p0,p1,p2⟩:=HK.out HM2.out;go_wp2_with fail
 refine(DT W0 base v.k m.keeps (k0+(m.ins.length:Int)+(m.outs.length:Int)) _ hl3 (by omega) (by omega) H.out.2.keeps (HS.out.trans HM2.out.shaped)).mono ?_;rintro e u3 ⟨rfl,m3⟩;have HM3:Hid (Ba base W0.heap.size W1 u3):=HM2.out.trans m3;clear m3 p0 p1 p2;go_wp2
 go_ret
 exact⟨⟨_,rfl,by omega⟩,Dn.of HB.out (Nat.le_refl _) HM3.out⟩
theorem N5:(Tryz.prog.info? 36).map (fun i=>(i.zero,i.size,i.bytes))=some (some (.slice none 0 0),1,24):=by kernel_rfl
def Ma(x:List MC×Value):List Value:=[x.2]
theorem Ev(x:List MC×Value):(Ma x).length=1:=rfl
def LK(w:World)(s:Value)(rs:List (List MC)):Prop:=∃xs:List (List MC×Value),xs.map Prod.fst=rs/\Rd w 1 s rs.length (xs.flatMap Ma)/\∀x∈xs,Rd w 2 x.2 x.1.length (x.1.flatMap MC.cells)
def Nu(w:World)(base:Nat)(s:Value)(rs:List (List MC)):Prop:=∃xs:List (List MC×Value),xs.map Prod.fst=rs/\w.ownsRow base 36 1 s rs.length (xs.flatMap Ma)/\∀x∈xs,w.ownsRow base 128 2 x.2 x.1.length (x.1.flatMap MC.cells)
theorem Nu.rd{w:World}{base:Nat}{s:Value}{rs:List (List MC)}(h:Nu w base s rs):LK w s rs:=by
 obtain⟨xs,h1,h2,h3⟩:=h;exact⟨xs,h1,Rd.of_own h2,fun x hx=>Rd.of_own (h3 x hx)⟩
theorem LK.keep{w w':World}{s:Value}{rs:List (List MC)}(h:LK w s rs){B:Nat}(hb:Below B w w')(hB:w.heap.size<=B):LK w' s rs:=by
 obtain⟨xs,h1,h2,h3⟩:=h;exact⟨xs,h1,h2.keep hb hB,fun x hx=>(h3 x hx).keep hb hB⟩
theorem Ij(s s':Value)(fs:List (List MC))(w:World)(hL:fs.length<=1048576)(hs:∀f∈fs,f.length<=1048576)(h:LK w s fs)(h':LK w s' fs):
 Calls Tryz.prog 45 #[s,s'] w fun e w'=>e=.returned (.bool true)/\Below w.heap.size w w':=by
 obtain⟨xs,hxs,hrd,hel⟩:=h;obtain⟨xs',hxs',hrd',hel'⟩:=h';have hxl:xs.length=fs.length:=by rw[<-hxs];simp
 have hxl':xs'.length=fs.length:=by rw[<-hxs'];simp
 have H1:=h5 hrd hxs hel hs hxl;have H2:=h5 hrd' hxs' hel' hs hxl';obtain⟨a1,c1,rfl⟩:=hrd.is_slice;obtain⟨a2,c2,rfl⟩:=hrd'.is_slice;clear hrd hxs hel hs hxl hrd' hxs' hel' hxl';generalize hLL:fs.length=n at hL H1 H2;clear hLL;go_enter Tryz.func45,Tryz.ntmps45;go_wp2
 go_loopw [5] (fun i wr=>∃k:Nat,k<=n/\i=.int .i64 k/\Below w.heap.size w wr) (fun i _=>n-(intOf i).toNat)
 case atStart=>exact⟨0,by omega,rfl,Below.refl _ _⟩
 case round=>
  obtain⟨k,hk,rfl,hbel⟩:=hrel;have HB:Hid (Below w.heap.size w wr):=hbel;clear hbel;by_cases hlt:k<n
  ·obtain⟨⟨f,v⟩,hx⟩:∃x,xs[k]?=some x:=⟨_,gE (by rw[H1.out.2.2.2.2];exact hlt)⟩
   obtain⟨⟨f',v'⟩,hx'⟩:∃x,xs'[k]?=some x:=⟨_,gE (by rw[H2.out.2.2.2.2];exact hlt)⟩;have e1:=Bh H1.out.2.1 hx;have e2:=Bh H2.out.2.1 hx'
   have hff:f'=f:=by
    rw[e1]at e2;exact(Option.some.inj e2).symm
   subst hff;have HX:Hid (Rd wr 2 v f'.length (f'.flatMap MC.cells)/\Rd wr 2 v' f'.length (f'.flatMap MC.cells)/\f'.length<=1048576):=⟨(H1.out.2.2.1 _ (mG hx)).keep HB.out lR,(H2.out.2.2.1 _ (mG hx')).keep HB.out lR,Nat.le_trans (H1.out.2.2.2.1 _ (mG e1)) (by omega)⟩
   clear e1 e2;rcases H1.out.1.2 with⟨e0,_⟩|⟨g,o,c,e1,hc1⟩
   ·omega
   ·rcases H2.out.1.2 with⟨e0,_⟩|⟨g',o',c',e2,hc2⟩
    ·omega
    ·simp only[sJ,true_and]at e1 e2
     obtain⟨rfl,rfl⟩:=e1;obtain⟨rfl,rfl⟩:=e2;have i0:=Rd.elem Ev hc1 k _ hx 0 _ rfl;have j0:=Rd.elem Ev hc2 k _ hx' 0 _ rfl;rw[<-HB.out.cell (bL i0)]at i0;rw[<-HB.out.cell (bL j0)]at j0;rw[Nat.mul_one,Nat.add_zero]at i0 j0;clear hc1 hc2 hx hx';simp only[]at i0 j0;go_wp2_with fail
     go_region_with (go_at_call 46;refine(Ex v v' f' _ HX.out.2.2 (by exact HX.out.1) (by exact HX.out.2.1)).mono ?_;rintro e u ⟨rfl,hbu⟩)
     all_goals
      have HB2:Hid (Below w.heap.size w u):=HB.out.trans (As hbu HB.out.size);clear hbu HB i0 j0;go_wp2
      go_roundw
      case rel=>exact⟨k+1,by omega,by go_num,HB2.out⟩
      case measure=>simp[intOf];omega
  ·go_wp2
   go_ret
   exact⟨rfl,HB.out⟩
def Cc(c:MC):Prop:=CE c.type=true/\(c.type=1->c.word<=1)
def AV(cs:List MC):Prop:=cs.length<=64/\∀j,j<cs.length->∀c,cs[j]?=some c->Cc c
theorem Cz{α:Type}{q:α->Prop}{xs:List α}{k:Nat}{x:α}(h1:xs[k]?=some x)(hx:q x)(h:∀j,j<k->∀c,xs[j]?=some c->q c):∀j,j<k+1->∀c,xs[j]?=some c->q c:=by
 intro j hj c hc;by_cases e:j=k
 ·subst e
  rw[h1]at hc;exact(Option.some.inj hc)▸hx
 ·exact h j (by omega) c hc
theorem Jo(v:VP)(p:MP)(w:World)(hs:p.small)(h:Cx w v p):
 Calls Tryz.prog 118 #[.agg #[v.r,v.k,v.f,v.t]] w fun e w'=>Ar e (AV p.consts)/\Below w.heap.size w w':=by
 have H1:=AS h.consts;have hn:=hs.consts;obtain⟨vr,vk,vf,vt⟩:=v;obtain⟨a1,c1,e1⟩:∃a c,vk=.slice a p.consts.length c:=h.consts.is_slice;subst e1;clear h hs;have HW:Hid (Below w.heap.size w (w.alloc (.cells #[vr,.slice a1 p.consts.length c1,vf,vt] 45))/\CY (w.alloc (.cells #[vr,.slice a1 p.consts.length c1,vf,vt] 45)) _ vr _ vf vt):=⟨Aa _ _,CY.new _ _ _ _ _ _⟩
 generalize hcs:p.consts=cs at*;clear hcs;generalize hLL:cs.length=n at hn H1 HW;have HL:Hid (cs.length=n):=hLL;clear hLL;go_enter Tryz.func118,Tryz.ntmps118;go_wp2
 go_loopw [3] (fun i wr=>∃k:Nat,k<=n/\i=.int .i64 k/\Hid (∀j,j<k->∀c,cs[j]?=some c->Cc c)/\Hid (Below w.heap.size w wr/\CY wr w.heap.size vr (.slice a1 n c1) vf vt)) (fun i _=>n-(intOf i).toNat)
 case atStart=>exact⟨0,by omega,rfl,fun j hj=>by omega,HW⟩
 case round=>
  clear HW;obtain⟨k,hk,rfl,HT,HW⟩:=hrel;obtain⟨p0,p1,p2,p3⟩:=HW.out.2;by_cases hlt:k<n
  ·obtain⟨x,hx⟩:∃x,cs[k]?=some x:=⟨_,gE (by rw[HL.out];exact hlt)⟩
   rcases H1.out.2 with⟨e0,_⟩|⟨b,o,c,e1,hc1⟩
   ·omega
   ·simp only[sJ,true_and]at e1
    obtain⟨rfl,rfl⟩:=e1;have i0:=Rd.elem MC.cells_length hc1 k x hx 0 _ rfl;have i1:=Rd.elem MC.cells_length hc1 k x hx 1 _ rfl;rw[<-HW.out.1.cell (bL i0),Nat.add_zero]at i0;rw[<-HW.out.1.cell (bL i1)]at i1;have HX:Hid (cs[k]?=some x):=hx;clear hc1 hx;have nb:¬b=wr.heap.size:=Nat.ne_of_lt (bL i0);have mb:b<wr.heap.size:=bL i0;have HW2:Hid (Below w.heap.size w (wr.alloc (.cells #[.int .i64 x.type,.int .u32 x.word] 143))/\CY (wr.alloc (.cells #[.int .i64 x.type,.int .u32 x.word] 143)) _ vr _ vf vt):=⟨Ab HW.out.1 lR (Aa _ _),HW.out.2.alloc _⟩
    go_wp2_with fail
    refine(BH x.type _).mono ?_;rintro e u ⟨rfl,rfl⟩;clear i0 i1 nb mb p0 p1 p2 p3;cases t1:CE x.type
    ·have HN:Hid (¬AV cs):=fun e=>by have:=(e.2 k (by rw[HL.out];exact hlt) x HX.out).1;simp[t1]at this
     clear t1;go_wp2
     go_ret
     exact⟨.no HN.out,HW2.out.1⟩
    ·have HT1:Hid (CE x.type=true):=t1
     clear t1;by_cases q1:x.type=1
     ·rw[q1]at HW2
      by_cases q2:1<x.word
      ·have HN:Hid (¬AV cs):=fun e=>by have:=(e.2 k (by rw[HL.out];exact hlt) x HX.out).2 q1;omega
       go_wp2
       go_ret
       exact⟨.no HN.out,HW2.out.1⟩
      ·have HC:Hid (Cc x):=⟨HT1.out,fun _=>by omega⟩
       go_wp2
       go_roundw
       case rel=>exact⟨k+1,by omega,by go_num,Cz HX.out HC.out HT.out,HW2⟩
       case measure=>simp[intOf];omega
     ·have q1':(x.type==1)=false:=by simpa using q1
      have HC:Hid (Cc x):=⟨HT1.out,fun e=>absurd e q1⟩;go_wp2
      go_roundw
      case rel=>exact⟨k+1,by omega,by go_num,Cz HX.out HC.out HT.out,HW2⟩
      case measure=>simp[intOf];omega
  ·have hkn:n=k:=by omega
   subst hkn
   have HY:Hid (decide ((n:Int)<=64)=true↔AV cs):=by
    show _↔_;rw[decide_eq_true_eq];exact⟨fun e=>⟨by rw[HL.out];omega,by rw[HL.out];exact HT.out⟩,fun e=>by have:=e.1;rw[HL.out]at this;omega⟩
   go_wp2
   go_ret
   exact⟨.of HY.out,HW.out.1⟩
structure MG where
 func:Int
 at_:Int
 base:Int
 locals:List MC
def Of(w:World)(v:Value)(f:MG):Prop:=Rd w 2 v f.locals.length (f.locals.flatMap MC.cells)
def PB(w:World)(base:Nat)(v:Value)(f:MG):Prop:=w.ownsRow base 128 2 v f.locals.length (f.locals.flatMap MC.cells)
def MG.small(f:MG):Prop:=f.locals.length<=1048576
theorem PB.rd{w:World}{base:Nat}{v:Value}{f:MG}(h:PB w base v f):Of w v f:=Rd.of_own h
theorem Of.keep{w w':World}{v:Value}{f:MG}(h:Of w v f){B:Nat}(hb:Below B w w')(hB:w.heap.size<=B):Of w' v f:=Rd.keep h hb hB
def AA(x:MG×Value):List Value:=[.int .i64 x.1.func,.int .i64 x.1.at_,.int .i64 x.1.base,x.2]
theorem Au(x:MG×Value):(AA x).length=4:=rfl
def LI(w:World)(s:Value)(fs:List MG):Prop:=∃xs:List (MG×Value),xs.map Prod.fst=fs/\Rd w 4 s fs.length (xs.flatMap AA)/\∀x∈xs,Of w x.2 x.1
def Np(w:World)(base:Nat)(s:Value)(fs:List MG):Prop:=∃xs:List (MG×Value),xs.map Prod.fst=fs/\w.ownsRow base 123 4 s fs.length (xs.flatMap AA)/\∀x∈xs,PB w base x.2 x.1
theorem Np.rd{w:World}{base:Nat}{s:Value}{fs:List MG}(h:Np w base s fs):LI w s fs:=by
 obtain⟨xs,h1,h2,h3⟩:=h;exact⟨xs,h1,Rd.of_own h2,fun x hx=>(h3 x hx).rd⟩
theorem LI.keep{w w':World}{s:Value}{fs:List MG}(h:LI w s fs){B:Nat}(hb:Below B w w')(hB:w.heap.size<=B):LI w' s fs:=by
 obtain⟨xs,h1,h2,h3⟩:=h;exact⟨xs,h1,h2.keep hb hB,fun x hx=>(h3 x hx).keep hb hB⟩
theorem Mg:(Tryz.prog.info? 123).map (fun i=>(i.zero,i.size,i.bytes))=some (some (.agg #[.int .i64 0,.int .i64 0,.int .i64 0,.slice none 0 0]),4,48):=by kernel_rfl
structure DP(p:MP)(a b c:Int):Prop where
 low:0<=c
 high:c<256
 mask:bits .and .i64 c (c+1)=0
 there:¬Bl p a b=0
 one:∀j:Nat,(j:Int)<=c->Bl p a (b+j)=Bl p a b
theorem MZ{p:MP}{r c:Int}(hs:∀l∈p.regions,l.length<=1048576)(h:¬Bl p r c=0):0<=c/\c<1048576:=by
 unfold Bl at h;split at h
 ·exact absurd rfl h
 ·rename_i hq
  refine⟨by omega,?_⟩;by_cases hr:r.toNat<p.regions.length
  ·have hm:=hs _ (List.getElem_mem hr)
   have e:p.regions.getD r.toNat []=p.regions[r.toNat]:=by rw[List.getD_eq_getElem?_getD,gE hr];rfl
   rw[e]at h;by_cases hc:c.toNat<p.regions[r.toNat].length
   ·omega
   ·exact absurd (by rw[List.getD_eq_getElem?_getD,List.getElem?_eq_none (by omega)];rfl) h
  ·have e:p.regions.getD r.toNat []=[]:=by rw[List.getD_eq_getElem?_getD,List.getElem?_eq_none (by omega)];rfl
   rw[e]at h;exact absurd rfl h
theorem Dt{z:Int}(h0:-9223372036854775808<=z)(h1:z<=9223372036854775807):Dr z:=by simp[Dr,Lit.wf,IntKind.min,IntKind.max,IntKind.signed,IntKind.bits];omega
theorem Dz{z:Int}(h:Dr z):-9223372036854775808<=z/\z<=9223372036854775807:=by simpa[Dr,Lit.wf,IntKind.min,IntKind.max,IntKind.signed,IntKind.bits]using h
theorem Lw(v:VP)(p:MP)(op a b c:Int)(w:World)(hs:p.small)(h3:p.regions.length=3)(ha:Dr a)(hb:Dr b)(hc:Dr c)(h:Cx w v p):
 Calls Tryz.prog 181 #[.agg #[v.r,v.k,v.f,v.t],.agg #[.int .i64 op,.int .i64 a,.int .i64 b,.int .i64 c]] w fun e w'=>Ar e (DP p a b c)/\Below w.heap.size w w':=by
 have HB:Hid (Below w.heap.size w ((w.alloc (.cells #[v.r,v.k,v.f,v.t] 45)).alloc (.cells #[.int .i64 op,.int .i64 a,.int .i64 b,.int .i64 c] 134))):=Ab (Aa _ _) lR (Aa _ _);have HP:Hid (CY ((w.alloc (.cells #[v.r,v.k,v.f,v.t] 45)).alloc (.cells #[.int .i64 op,.int .i64 a,.int .i64 b,.int .i64 c] 134)) w.heap.size v.r v.k v.f v.t):=(CY.new w _ _ _ _ _).alloc _
 have HX:Hid (CY ((w.alloc (.cells #[v.r,v.k,v.f,v.t] 45)).alloc (.cells #[.int .i64 op,.int .i64 a,.int .i64 b,.int .i64 c] 134)) (w.heap.size+1) (.int .i64 op) (.int .i64 a) (.int .i64 b) (.int .i64 c)):=by
  have:=CY.new (w.alloc (.cells #[v.r,v.k,v.f,v.t] 45)) (.int .i64 op) (.int .i64 a) (.int .i64 b) (.int .i64 c) 134;simpa[Hid]using this
 have H:Hid (p.small/\p.regions.length=3/\Dr a/\Dr b/\Cx w v p):=⟨hs,h3,ha,hb,h⟩
 obtain⟨c0,c1⟩:=Dz hc;clear hs h3 ha hb h hc;by_cases q0:c<0
 ·have HN:Hid (¬DP p a b c):=fun e=>absurd e.low (by omega)
  clear H HP HX;go_enter Tryz.func181,Tryz.ntmps181;go_wp2
  go_ret
  exact⟨.no HN.out,HB.out⟩
 by_cases q1:256<=c
 ·have HN:Hid (¬DP p a b c):=fun e=>absurd e.high (by omega)
  clear H HP HX;go_enter Tryz.func181,Tryz.ntmps181;go_wp2
  go_ret
  exact⟨.no HN.out,HB.out⟩
 obtain⟨c,rfl⟩:=Int.eq_ofNat_of_zero_le (show 0<=c by omega);have hcn:c<256:=by omega
 clear c0 c1 q0 q1;have q0:¬(c:Int)<0:=by omega
 have q1:¬(256:Int)<=(c:Int):=by omega
 by_cases q2:bits .and .i64 (c:Int) ((c:Int)+1)=0
 ·have HM:Hid (bits .and .i64 (c:Int) ((c:Int)+1)=0):=q2
  go_enter Tryz.func181,Tryz.ntmps181;go_wp2_with fail
  clear q2 q0 q1;refine(Gb v p a b _ H.out.1 H.out.2.1 H.out.2.2.1 H.out.2.2.2.1 (H.out.2.2.2.2.keep HB.out lR)).mono ?_;rintro e u0 ⟨rfl,bl0⟩;have HB1:Hid (Below w.heap.size w u0/\CY u0 w.heap.size v.r v.k v.f v.t/\CY u0 (w.heap.size+1) (.int .i64 op) (.int .i64 a) (.int .i64 b) (.int .i64 (c:Int))):=⟨Ab HB.out lR bl0,HP.out.keep bl0,HX.out.keep bl0⟩
  clear bl0 HB HP HX;generalize hT:Bl p a b=T;have HT:Hid (Bl p a b=T):=hT;clear hT;go_wp2
  go_loopw [6] (fun i wr=>∃k:Nat,k<=c+1/\i=.int .i64 k/\Hid ((0<k->¬T=0)/\∀j:Nat,j<k->Bl p a (b+j)=T)/\Hid (Below w.heap.size w wr/\CY wr w.heap.size v.r v.k v.f v.t/\CY wr (w.heap.size+1) (.int .i64 op) (.int .i64 a) (.int .i64 b) (.int .i64 (c:Int)))) (fun i _=>c+1-(intOf i).toNat)
  case atStart=>exact⟨0,by omega,rfl,⟨fun h=>by omega,fun j hj=>by omega⟩,HB1⟩
  case round=>
   clear HB1;obtain⟨k,hk,rfl,HI,HW⟩:=hrel;obtain⟨p0,p1,p2,p3⟩:=HW.out.2.1;obtain⟨i0,i1,i2,i3⟩:=HW.out.2.2;by_cases hlt:k<c+1
   ·have hlt':(k:Int)<=(c:Int):=by omega
    by_cases q3:T=0
    ·have q3':(T==0)=true:=by simpa using q3
     have HN:Hid (¬DP p a b c):=fun e=>e.there (HT.out.trans q3)
     clear q3;go_wp2
     go_ret
     exact⟨.no HN.out,HW.out.1⟩
    ·have q3':(T==0)=false:=by simpa using q3
     have hbb:=MZ H.out.1.region (by rw[HT.out];exact q3);obtain⟨b0,b1⟩:=hbb;have HQ3:Hid (¬T=0):=q3;clear q3;go_wp2_with fail;refine(Gb v p a (b+k) _ H.out.1 H.out.2.1 H.out.2.2.1 (Dt (by omega) (by omega)) (H.out.2.2.2.2.keep HW.out.1 lR)).mono ?_;rintro e u1 ⟨rfl,bl1⟩;have HW2:Hid (Below w.heap.size w u1/\CY u1 w.heap.size v.r v.k v.f v.t/\CY u1 (w.heap.size+1) (.int .i64 op) (.int .i64 a) (.int .i64 b) (.int .i64 (c:Int))):=⟨Ab HW.out.1 lR bl1,HW.out.2.1.keep bl1,HW.out.2.2.keep bl1⟩
     clear bl1 HW p0 p1 p2 p3 i0 i1 i2 i3;by_cases q4:Bl p a (b+k)=T
     ·rw[q4]
      have HI2:Hid ((0<k+1->¬T=0)/\∀j:Nat,j<k+1->Bl p a (b+j)=T):=⟨fun _=>HQ3.out,fun j hj=>by
       by_cases e:j=k
       ·rw[e];exact q4
       ·exact HI.out.2 j (by omega)⟩
      clear q4;go_wp2
      go_roundw
      case rel=>exact⟨k+1,by omega,by go_num,HI2,HW2⟩
      case measure=>simp[intOf];omega
     ·have HN:Hid (¬DP p a b c):=fun e=>q4 ((e.one k hlt').trans HT.out)
      have q4':(Bl p a (b+k)==T)=false:=by simpa using q4
      have q4'':(Bl p a (b+k) != T)=true:=by simpa using q4
      go_wp2
      go_ret
      exact⟨.no HN.out,HW2.out.1⟩
   ·have hkn:k=c+1:=by omega
    subst hkn;have HY:Hid (DP p a b c):=⟨by omega,by omega,HM.out,by rw[HT.out];exact HI.out.1 (by omega),fun j hj=>by rw[HT.out];exact HI.out.2 j (by omega)⟩;have hle:¬((c:Int)+1)<=(c:Int):=by omega
    go_wp2
    go_ret
    exact⟨.yes HY.out,HW.out.1⟩
 ·have HN:Hid (¬DP p a b c):=fun e=>q2 e.mask
  have q2':(bits .and .i64 (c:Int) ((c:Int)+1)==0)=false:=by simpa using q2
  clear H HP HX;go_enter Tryz.func181,Tryz.ntmps181;go_wp2
  go_ret
  exact⟨.no HN.out,HB.out⟩
theorem Fb(s:Value)(ys:List Int)(w:World)(hn:ys.length<=1048576)(h:Rd w 1 s ys.length (ys.flatMap Ae)):
 Calls Tryz.prog 185 #[s] w fun e w'=>e=.returned (.bool (ys.all CE))/\w'=w:=by
 have H1:=AS h;obtain⟨a1,c1,rfl⟩:=h.is_slice;clear h;generalize hLL:ys.length=n at hn H1;have HL:Hid (ys.length=n):=hLL;clear hLL;generalize hR:ys.all CE=R;have HR:Hid (ys.all CE=R):=hR;clear hR;go_enter Tryz.func185,Tryz.ntmps185;go_wp2
 go_loopw [7] (fun i wr=>∃k:Nat,k<=n/\i=.int .i64 k/\Hid ((ys.take k).all CE=true)/\wr=w) (fun i _=>n-(intOf i).toNat)
 case atStart=>exact⟨0,by omega,rfl,by simp[Hid],rfl⟩
 case round=>
  obtain⟨k,hk,rfl,HT,rfl⟩:=hrel;by_cases hlt:k<n
  ·obtain⟨x,hx⟩:∃x,ys[k]?=some x:=⟨_,gE (by rw[HL.out];exact hlt)⟩
   rcases H1.out.2 with⟨e0,_⟩|⟨g,o,c,e1,hc1⟩
   ·omega
   ·simp only[sJ,true_and]at e1
    obtain⟨rfl,rfl⟩:=e1;have i0:=Rd.elem An hc1 k x hx 0 _ rfl;rw[Nat.mul_one,Nat.add_zero]at i0;have HX:Hid (ys[k]?=some x):=hx;clear hc1 hx;go_wp2_with fail
    refine(Ca x wr).mono ?_;rintro e u ⟨rfl,rfl⟩;cases hq:CE x with
    | false=>
     have hR:R=false:=by
      rw[<-HR.out];exact Mc _ _ _ (mG HX.out) hq
     subst hR;clear hq;go_wp2
     go_ret
     exact⟨rfl,rfl⟩
    | true=>
     have HN:Hid ((ys.take (k+1)).all CE=true):=by
      show _=_;rw[Ln _ _ _ _ HX.out HT.out];exact hq
     clear hq;go_wp2
     go_roundw
     case rel=>exact⟨k+1,by omega,by go_num,HN,by trivial⟩
     case measure=>simp[intOf];omega
  ·have hkn:k=n:=by omega
   subst hkn
   have hR:R=true:=by
    rw[<-HR.out,<-HT.out,<-HL.out,List.take_length]
   subst hR;go_wp2
   go_ret
   exact⟨rfl,rfl⟩
def ER(r:List Int):Prop:=r.length<=256/\r.all CE=true
def AB(rs:List (List Int)):Prop:=rs.length=3/\∀j,j<rs.length->∀r,rs[j]?=some r->ER r
theorem Ha(s:Value)(fs:List (List Int))(w:World)(hL:fs.length<=1048576)(hs:∀f∈fs,f.length<=1048576)(h:LE w s fs):
 Calls Tryz.prog 127 #[s] w fun e w'=>Ar e (AB fs)/\w'=w:=by
 obtain⟨xs,hxs,hrd,hel⟩:=h;have hxl:xs.length=fs.length:=by rw[<-hxs];simp
 have H1:=h5 hrd hxs hel hs hxl;obtain⟨a1,c1,rfl⟩:=hrd.is_slice;clear hrd hxs hel hs hxl;generalize hLL:fs.length=n at hL H1;have HL:Hid (fs.length=n):=hLL;clear hLL;by_cases q0:n=3
 ·subst q0
  go_enter Tryz.func127,Tryz.ntmps127;go_wp2
  go_loopw [10] (fun i wr=>∃k:Nat,k<=3/\i=.int .i64 k/\Hid (∀j,j<k->∀r,fs[j]?=some r->ER r)/\wr=w) (fun i _=>3-(intOf i).toNat)
  case atStart=>exact⟨0,by omega,rfl,fun j hj=>by omega,rfl⟩
  case round=>
   obtain⟨k,hk,rfl,HT,rfl⟩:=hrel;by_cases hlt:k<3
   ·obtain⟨⟨f,v⟩,hx⟩:∃x,xs[k]?=some x:=⟨_,gE (by rw[H1.out.2.2.2.2];exact hlt)⟩
    have e1:=Bh H1.out.2.1 hx;have hf:=H1.out.2.2.1 _ (mG hx);have HX:Hid (Rd wr 1 v f.length (f.flatMap Ae)/\f.length<=1048576/\fs[k]?=some f):=⟨hf,H1.out.2.2.2.1 _ (mG e1),e1⟩
    clear e1;rcases H1.out.1.2 with⟨e0,_⟩|⟨b,o,c,e1,hc1⟩
    ·omega
    ·simp only[sJ,true_and]at e1
     obtain⟨rfl,rfl⟩:=e1;have i0:=Rd.elem AO hc1 k _ hx 0 _ rfl;rw[Nat.mul_one,Nat.add_zero]at i0;clear hc1 hx;simp only[]at i0 hf;obtain⟨av,cv,ev⟩:=hf.is_slice;subst ev;clear hf;have hz:=HX.out.2.1;by_cases q1:256<f.length
     ·have HN:Hid (¬AB fs):=fun e=>absurd (e.2 k (by rw[HL.out];exact hlt) f HX.out.2.2).1 (by omega)
      generalize f.length=m at*;go_wp2
      go_ret
      exact⟨.no HN.out,rfl⟩
     ·go_wp2_with fail
      refine(Fb _ f _ HX.out.2.1 HX.out.1).mono ?_;rintro e u ⟨rfl,rfl⟩;cases t1:f.all CE
      ·have HN:Hid (¬AB fs):=fun e=>by have:=(e.2 k (by rw[HL.out];exact hlt) f HX.out.2.2).2;simp[t1]at this
       clear t1;go_wp2
       go_ret
       exact⟨.no HN.out,rfl⟩
      ·have HN:Hid (ER f):=⟨by omega,t1⟩
       clear t1;go_wp2
       go_roundw
       case rel=>exact⟨k+1,by omega,by go_num,Cz HX.out.2.2 HN.out HT.out,by trivial⟩
       case measure=>simp[intOf];omega
   ·have hkn:k=3:=by omega
    subst hkn;have HY:Hid (AB fs):=⟨HL.out,by rw[HL.out];exact HT.out⟩;go_wp2;go_ret;exact⟨.yes HY.out,rfl⟩
 ·have HN:Hid (¬AB fs):=fun e=>q0 (by rw[<-HL.out];exact e.1)
  have hi:¬(n:Int)=3:=by omega
  clear H1;go_enter Tryz.func127,Tryz.ntmps127;go_wp2
  go_ret
  exact⟨.no HN.out,rfl⟩
end Go.Proofs.YtlejplpkomddeaaGreat
