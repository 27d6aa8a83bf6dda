import Derived.Test.YtlejplpkomddeaaGreatG0
import Derived.Test.YtlejplpkomddeaaGreatG5
import Derived.Test.YtlejplpkomddeaaGreatG14
import Derived.Test.YtlejplpkomddeaaGreatG7
import Derived.Test.YtlejplpkomddeaaGreatG10
import Derived.Test.YtlejplpkomddeaaGreatG13
namespace Go.Proofs.YtlejplpkomddeaaGreat
open Go.ChangeShapes Go.WideShapes Go.ChangeAt Go.RowKit
set_option linter.unusedVariables false
set_option maxHeartbeats 8000000
set_option maxRecDepth 100000
theorem AJ(n:Int)(c:Int)(w:World):
  Calls Tryz.prog 99 #[.int .i64 n,.int .i64 c] w fun e w'=>e=.returned (.bool (decide (0<=n/\n<c)))/\w'=w:=by
 by_cases q0:n<0
 ·rw[decide_eq_false (by omega:¬(0<=n/\n<c))]
  have q0':¬0<=n:=by omega
  go_enter Tryz.func99,Tryz.ntmps99;go_wp2
  go_ret
  exact⟨rfl,rfl⟩
 have q0':0<=n:=by omega
 by_cases q1:n<c
 ·rw[decide_eq_true (by omega:0<=n/\n<c)]
  go_enter Tryz.func99,Tryz.ntmps99;go_wp2
  go_ret
  exact⟨rfl,rfl⟩
 ·rw[decide_eq_false (by omega:¬(0<=n/\n<c))]
  go_enter Tryz.func99,Tryz.ntmps99;go_wp2
  go_ret
  exact⟨rfl,rfl⟩
theorem Ej(F t:Int)(w:World)(hF:F=5\/F=6\/F=7):Calls Tryz.prog 208 #[.int .i64 F,.int .i64 t] w fun e w'=>Ao e (AV F t)/\w'=w:=by
 rcases hF with rfl|rfl|rfl
 ·go_enter Tryz.func208,Tryz.ntmps208
  go_wp2
  all_goals(go_ret;refine⟨Ao.of ?_,rfl⟩;go_light;simp_all [AV])
 ·go_enter Tryz.func208,Tryz.ntmps208
  go_wp2
  all_goals(go_ret;refine⟨Ao.of ?_,rfl⟩;go_light;simp_all [AV])
 ·go_enter Tryz.func208,Tryz.ntmps208
  go_wp2_with fail
  refine(BO t _).mono ?_;rintro e u ⟨rfl,rfl⟩;go_wp2
  all_goals(go_ret;refine⟨Ao.of ?_,rfl⟩;go_light;simp_all [AV])
structure IG(w:World)(b:Nat)(x0 x1 x2 x3 x4 x5 x6 x7:Value):Prop where
 c0:w.cell? ⟨b,0,none⟩=some x0
 c1:w.cell? ⟨b,1,none⟩=some x1
 c2:w.cell? ⟨b,2,none⟩=some x2
 c3:w.cell? ⟨b,3,none⟩=some x3
 c4:w.cell? ⟨b,4,none⟩=some x4
 c5:w.cell? ⟨b,5,none⟩=some x5
 c6:w.cell? ⟨b,6,none⟩=some x6
 c7:w.cell? ⟨b,7,none⟩=some x7
theorem IG.lt{w:World}{b:Nat}{x0 x1 x2 x3 x4 x5 x6 x7:Value}(h:IG w b x0 x1 x2 x3 x4 x5 x6 x7):b<w.heap.size:=bL h.c0
theorem IG.keep{w w':World}{b:Nat}{x0 x1 x2 x3 x4 x5 x6 x7:Value}(h:IG w b x0 x1 x2 x3 x4 x5 x6 x7)(hb:Below w.heap.size w w'):IG w' b x0 x1 x2 x3 x4 x5 x6 x7:=
 ⟨by rw[hb.cell h.lt];exact h.c0,by rw[hb.cell h.lt];exact h.c1,by rw[hb.cell h.lt];exact h.c2,by rw[hb.cell h.lt];exact h.c3,by rw[hb.cell h.lt];exact h.c4,by rw[hb.cell h.lt];exact h.c5,by rw[hb.cell h.lt];exact h.c6,by rw[hb.cell h.lt];exact h.c7⟩
theorem IG.new(w:World)(x0 x1 x2 x3 x4 x5 x6 x7:Value)(ty:TypeId):IG (w.alloc (.cells #[x0,x1,x2,x3,x4,x5,x6,x7] ty)) w.heap.size x0 x1 x2 x3 x4 x5 x6 x7:=by
 have h:=World.ownsRow_lit (base:=w.heap.size) (e:=ty) (size:=8) w #[x0,x1,x2,x3,x4,x5,x6,x7] 1 lR (by unfold maxLen;omega) (by simp);exact⟨h.cellAt 0 (by omega),h.cellAt 1 (by omega),h.cellAt 2 (by omega),h.cellAt 3 (by omega),h.cellAt 4 (by omega),h.cellAt 5 (by omega),h.cellAt 6 (by omega),h.cellAt 7 (by omega)⟩
theorem IG.alloc{w:World}{b:Nat}{x0 x1 x2 x3 x4 x5 x6 x7:Value}(h:IG w b x0 x1 x2 x3 x4 x5 x6 x7)(o:Obj):IG (w.alloc o) b x0 x1 x2 x3 x4 x5 x6 x7:=h.keep (Aa _ _)
def FT(f:MF)(n:Int):Prop:=0<=n/\n<(f.params.length:Int)+(f.locals.length:Int)
theorem EF(x0 x1 x2 x3:Value)(g:VF)(f:MF)(n:Int)(w:World)(hs:f.small)(h:CK w g f):
  Calls Tryz.prog 205 #[.agg #[x0,x1,x2,x3,g.p,.int .i64 f.result,g.l,g.c],.int .i64 n] w fun e w'=>Ao e (FT f n)/\Below w.heap.size w w':=by
 obtain⟨a1,c1,e1⟩:=h.1.is_slice;obtain⟨a2,c2,e2⟩:=h.2.1.is_slice;obtain⟨vp,vl,vc⟩:=g;obtain⟨s1,s2,s3⟩:=hs;simp only[]at e1 e2;subst e1 e2;clear h;go_enter Tryz.func205,Tryz.ntmps205;go_wp2_with fail
 refine(AJ n ((f.params.length:Int)+(f.locals.length:Int)) _).mono ?_;rintro e u ⟨rfl,rfl⟩;go_wp2
 go_ret
 exact⟨.of (by unfold FT;simp),Aa _ _⟩
def CF(p:MP)(op a b:Int):Prop:=∃l,0<=a/\p.regions[a.toNat]?=some l/\0<=b/\b<(l.length:Int)/\¬((op=5\/op=7)/\a=0)
theorem Do(v:VP)(p:MP)(x4 x5 x6 x7:Value)(op a b c:Int)(w:World)(hs:p.small)(h3:p.regions.length=3)(h:Cx w v p):
  Calls Tryz.prog 206 #[.agg #[v.r,v.k,v.f,v.t,x4,x5,x6,x7],.agg #[.int .i64 op,.int .i64 a,.int .i64 b,.int .i64 c]] w fun e w'=>Ao e (CF p op a b)/\Below w.heap.size w w':=by
 obtain⟨vr,vk,vf,vt⟩:=v;obtain⟨xs,hxs,hrd,hel⟩:=h.regions;simp only[]at hrd;rw[h3]at hrd;have hxl:xs.length=3:=by rw[<-h3,<-hxs];simp
 have H1:Hid (Rd w 1 vr 3 (xs.flatMap Cm)/\xs.map Prod.fst=p.regions/\(∀x∈xs,Rd w 1 x.2 x.1.length (x.1.flatMap Af))/\(∀l∈p.regions,l.length<=1048576)/\xs.length=3/\p.regions.length=3):=⟨hrd,hxs,hel,hs.region,hxl,h3⟩
 clear hrd hxs hel hxl hs h h3;have HB:Hid (Below w.heap.size w ((w.alloc (.cells #[vr,vk,vf,vt,x4,x5,x6,x7] 164)).alloc (.cells #[.int .i64 op,.int .i64 a,.int .i64 b,.int .i64 c] 134))):=Ac (Aa _ _) lR (Aa _ _);by_cases q0:0<=a/\a<3
 ·obtain⟨i,rfl⟩:=Int.eq_ofNat_of_zero_le q0.1
  have hi:i<3:=by omega
  obtain⟨⟨l,y⟩,hx⟩:∃x,xs[i]?=some x:=⟨_,gE (by rw[H1.out.2.2.2.2.1];omega)⟩;have e1:=AO H1.out.2.1 hx;have hy:=H1.out.2.2.1 _ (mG hx);have hll:=H1.out.2.2.2.1 _ (mG e1);simp only[]at e1 hy hll;rcases H1.out.1.2 with⟨e0,_⟩|⟨g,o,cc,e2,hc1⟩
  ·omega
  subst e2;have a0:=Rd.elem AK hc1 i _ hx 0 _ rfl;rw[Nat.mul_one,Nat.add_zero]at a0;simp only[]at a0;clear hc1 hx;have HX:Hid (p.regions[i]?=some l):=e1;clear e1;obtain⟨ay,cy,rfl⟩:=hy.is_slice;clear hy;have a1:=(HB.out.cell (bL a0)).trans a0;have ga:¬g=w.heap.size:=Nat.ne_of_lt (bL a0)
  have HC:Hid (CF p op (i:Int) b↔¬((op=5\/op=7)/\(i:Int)=0)/\0<=b/\b<(l.length:Int)):=by
   show _↔_;constructor
   ·rintro⟨l',h1,h2,h3,h4,h5⟩
    rw[Int.toNat_natCast,HX.out]at h2;obtain rfl:=Option.some.inj h2;exact⟨h5,h3,h4⟩
   ·rintro⟨h5,h3,h4⟩
    exact⟨l,by omega,by rw[Int.toNat_natCast];exact HX.out,h3,h4,h5⟩
  by_cases q1:(op=5\/op=7)/\(i:Int)=0
  ·have HN:Hid (¬CF p op (i:Int) b):=fun e=>(HC.out.1 e).1 q1
   obtain⟨q1,q2⟩:=q1;obtain rfl:i=0:=by omega
   rcases q1 with rfl|rfl
   ·go_enter Tryz.func206,Tryz.ntmps206
    go_wp2_with fail
    refine(AJ 0 3 _).mono ?_;rintro e u ⟨rfl,rfl⟩;go_wp2
    go_ret
    exact⟨.no HN.out,HB.out⟩
   ·go_enter Tryz.func206,Tryz.ntmps206
    go_wp2_with fail
    refine(AJ 0 3 _).mono ?_;rintro e u ⟨rfl,rfl⟩;go_wp2
    go_ret
    exact⟨.no HN.out,HB.out⟩
  ·have hiz:((i:Int)==0)=decide (i=0):=by
    by_cases e:i=0
    ·subst e
     rfl
    ·rw[decide_eq_false e]
     simpa using e
   have hit:decide (0<=(i:Int)/\(i:Int)<3)=true:=decide_eq_true (by omega)
   have HD:Hid (decide (0<=b/\b<(l.length:Int))=true↔CF p op (i:Int) b):=by
    show _↔_;rw[HC.out,decide_eq_true_eq];exact⟨fun e=>⟨q1,e⟩,fun e=>e.2⟩
   by_cases w5:op=5
   ·subst w5
    have hi0:((i:Int)==0)=false:=by
     have:¬i=0:=fun e=>q1 ⟨.inl rfl,by omega⟩
     rw[hiz,decide_eq_false this]
    clear q1 HC hiz;go_enter Tryz.func206,Tryz.ntmps206;go_wp2_with fail
    refine(AJ (i:Int) 3 _).mono ?_;rintro e u ⟨rfl,rfl⟩;rw[hit];go_wp2_with fail
    go_quiet ((go_at_call 99;exact Calls.quiet_of_same (AJ b (l.length:Int) _)))
    go_wp2
    go_ret
    exact⟨.of HD.out,HB.out.trans (Bc _ _ _)⟩
   ·by_cases w7:op=7
    ·subst w7
     have hi0:((i:Int)==0)=false:=by
      have:¬i=0:=fun e=>q1 ⟨.inr rfl,by omega⟩
      rw[hiz,decide_eq_false this]
     clear q1 HC hiz w5;go_enter Tryz.func206,Tryz.ntmps206;go_wp2_with fail
     refine(AJ (i:Int) 3 _).mono ?_;rintro e u ⟨rfl,rfl⟩;rw[hit];go_wp2_with fail
     go_quiet ((go_at_call 99;exact Calls.quiet_of_same (AJ b (l.length:Int) _)))
     go_wp2
     go_ret
     exact⟨.of HD.out,HB.out.trans (Bc _ _ _)⟩
    ·have w5':(op==5)=false:=by simpa using w5
     have w7':(op==7)=false:=by simpa using w7
     clear q1 HC hiz w5 w7;go_enter Tryz.func206,Tryz.ntmps206;go_wp2_with fail
     refine(AJ (i:Int) 3 _).mono ?_;rintro e u ⟨rfl,rfl⟩;rw[hit];go_wp2_with fail
     go_quiet ((go_at_call 99;exact Calls.quiet_of_same (AJ b (l.length:Int) _)))
     go_wp2
     go_ret
     exact⟨.of HD.out,HB.out.trans (Bc _ _ _)⟩
 ·have HN:Hid (¬CF p op a b):=fun⟨l,h1,h2,_⟩=>q0 ⟨h1,by have:=(gI.1 h2).1;rw[H1.out.2.2.2.2.2]at this;omega⟩
  have hit:decide (0<=a/\a<3)=false:=decide_eq_false q0
  clear H1;by_cases w5:op=5
  ·subst w5
   go_enter Tryz.func206,Tryz.ntmps206;go_wp2_with fail
   refine(AJ a 3 _).mono ?_;rintro e u ⟨rfl,rfl⟩;rw[hit];go_wp2
   go_ret
   exact⟨.no HN.out,HB.out⟩
  ·have w5':(op==5)=false:=by simpa using w5
   go_enter Tryz.func206,Tryz.ntmps206;go_wp2_with fail
   refine(AJ a 3 _).mono ?_;rintro e u ⟨rfl,rfl⟩;rw[hit];go_wp2
   go_ret
   exact⟨.no HN.out,HB.out⟩
theorem D9(vs:List MC)(ts:List Int):Cw Gz vs ts↔Cu vs ts:=by
 constructor
 ·rintro⟨hl,h⟩
  have e:vs.map MC.type=ts:=by
   apply List.ext_getElem?;intro j;by_cases hj:j<vs.length
   ·have h1:vs[j]?=some vs[j]:=gE hj
    have h2:ts[j]?=some (ts[j]'(by omega)):=gE (by omega)
    have h3:=(h j hj _ h1 _ h2).1;rw[List.getElem?_map,h1,h2,<-h3];rfl
   ·rw[List.getElem?_eq_none (by rw[List.length_map];omega),List.getElem?_eq_none (by omega)]
  refine⟨e,fun v hv=> ?_⟩;obtain⟨j,hj⟩:=List.getElem?_of_mem hv;have hlt:=(gI.1 hj).1;exact(h j hlt v hj _ (gE (by omega))).2
 ·rintro⟨rfl,h⟩
  refine⟨by simp,fun j hj v hv t ht=> ?_⟩;rw[List.getElem?_map,hv]at ht;exact⟨Option.some.inj ht,h v (mG hv)⟩
theorem Ki(rs:List (List MC))(gs:List (List Int)):Ky rs gs↔rs.length=gs.length/\∀(i:Nat) c r,rs[i]?=some c->gs[i]?=some r->Cu c r:=by
 constructor
 ·rintro⟨hl,h⟩
  exact⟨hl,fun i c r hc hr=>(D9 c r).1 (h i (gI.1 hc).1 c hc r hr)⟩
 ·rintro⟨hl,h⟩
  exact⟨hl,fun i hi c hc r hr=>(D9 c r).2 (h i c r hc hr)⟩
def BD(p:MP)(n:Nat):Int->List MG->Prop
 |_,[]=>True
 |b,g::r=>Fp p n g/\b<=g.base/\BD p n g.base r
theorem IE(p:MP)(n:Nat)(b:Int)(fs:List MG):BD p n b fs↔(∀g∈fs,Fp p n g)/\DF b fs:=by
 induction fs generalizing b with
 |nil=>simp[BD,DF]
 | cons g r ih=>
  simp only[BD,DF,ih,List.mem_cons,forall_eq_or_imp];constructor
  ·rintro⟨h1,h2,h3,h4⟩
   exact⟨⟨h1,h3⟩,h2,h4⟩
  ·rintro⟨⟨h1,h3⟩,h2,h4⟩
   exact⟨h1,h2,h3,h4⟩
theorem BD.drop{p:MP}{n k:Nat}{b:Int}{fs:List MG}{g:MG}(h:fs[k]?=some g):BD p n b (fs.drop k)↔Fp p n g/\b<=g.base/\BD p n g.base (fs.drop (k+1)):=by
 obtain⟨hlt,rfl⟩:=gI.1 h;rw[List.drop_eq_getElem_cons hlt];exact Iff.rfl
theorem BD.end{p:MP}{n k:Nat}{b:Int}{fs:List MG}(h:fs.length<=k):BD p n b (fs.drop k):=by
 rw[List.drop_eq_nil_of_le h];trivial
theorem KG(p:MP)(s:MS):BM p s↔Be p 0/\(0<=s.cost/\s.cost<=4611686018427387904)/\(0<=s.steps/\s.steps<=4611686018427387904)/\Ky s.cells p.regions/\(s.stack.length<=64/\CO s.stack)/\(s.frames≠[]/\s.frames.length<=32/\BD p s.stack.length 0 s.frames):=by
 rw[Ki,IE];constructor
 ·intro h
  exact⟨h.prog,h.cost,h.steps,⟨h.three,h.cells⟩,⟨h.high,h.stack⟩,h.some,h.deep,h.frames,h.bases⟩
 ·rintro⟨h1,h2,h3,⟨h4,h5⟩,⟨h6,h7⟩,h8,h9,h10,h11⟩
  exact⟨h1,h2,h3,h4,h5,h6,h7,h8,h9,h10,h11⟩
def Ay(p:MP)(f:MF)(x:MI):List Int:=
 if x.op=1 then[(CD p.consts x.a.toNat).type]else if x.op=2 then[At f x.a]else if x.op=4\/x.op=6 then[CC p x]
 else if 8<=x.op/\x.op<=16 then[x.a]else if x.op=17\/x.op=18 then[3]else if x.op=19 then[2]else if x.op=20\/x.op=21 then[1]
 else if x.op=22 then[x.b]else if x.op=23 then[0,0]else if x.op=28 then(match p.funcs[x.a.toNat]? with|some g=>AQ g|none=>[])else[]
theorem FC(p:MP)(f:MF)(x:MI)(h:x.op≠28):(Ay p f x).length=Ez x:=by
 unfold Ay Ez;repeat' split
 all_goals first|rfl|(exfalso;omega)
def CA(p:MP)(f:MF)(x:MI):List Int:=if x.op=29 then AQ f else Am p f x
structure Fa(xs:List Int)(c:Int):Prop where
 low:0<=c
 high:c<(xs.length:Int)
 mask:bits .and .i64 c (c+1)=0
 one:∀j:Nat,(j:Int)<=c->xs[j]?=xs[0]?
theorem FG(a1:Option Addr)(c1:Nat)(xs:List Int)(c:Int)(w:World)(hn:xs.length<=1048576)(hcap:xs.length<=c1)(h:Rd w 1 (.slice a1 xs.length c1) xs.length (xs.flatMap Af)):
  Calls Tryz.prog 207 #[.slice a1 xs.length c1,.int .i64 c] w fun e w'=>Ao e (Fa xs c)/\Below w.heap.size w w':=by
 have H1:=AM h;clear h;generalize hLL:xs.length=n at hn hcap H1;have HL:Hid (xs.length=n):=hLL;clear hLL;by_cases q0:0<=c/\c<(n:Int)
 ·have hit:decide (0<=c/\c<(n:Int))=true:=decide_eq_true q0
  obtain⟨c,rfl⟩:=Int.eq_ofNat_of_zero_le q0.1;have hcn:c<n:=by omega
  clear q0;by_cases q1:bits .and .i64 (c:Int) ((c:Int)+1)=0
  ·have HM:=AM q1
   obtain⟨y,hy⟩:∃y,xs[0]?=some y:=⟨_,gE (by rw[HL.out];omega)⟩;rcases H1.out.2 with⟨e0,_⟩|⟨g,o,cc,e1,hc1⟩
   ·omega
   simp only[sJ,true_and]at e1;obtain⟨rfl,rfl⟩:=e1;have j0:=Rd.elem Ap hc1 0 y hy 0 _ rfl;simp only[Nat.zero_mul,Nat.add_zero]at j0;have HC:=AM hc1;have HY:Hid (xs[0]?=some y):=hy;clear hc1 hy;go_enter Tryz.func207,Tryz.ntmps207;go_wp2_with fail
   refine(AJ (c:Int) (n:Int) _).mono ?_;rintro e u ⟨rfl,rfl⟩;rw[hit];have k1:(c:Int)+1<=(c1:Int):=by omega
   have k2:(0:Int)<=(c:Int)+1:=by omega
   have k3:(0:Int)<(n:Int):=by omega
   have k4:((c:Int)+1).toNat=c+1:=by omega
   go_wp2
   clear k1 k2 hit q1;go_loopw [24] (fun i wr=>∃k:Nat,k<=c+1/\i=.int .i64 k/\Hid (∀j,j<k->xs[j]?=some y)/\∃m,wr=u.drewN m) (fun i _=>c+1-(intOf i).toNat)
   case atStart=>exact⟨0,by omega,rfl,fun j hj=>by omega,0,rfl⟩
   case round=>
    obtain⟨k,hk,rfl,HT,m,rfl⟩:=hrel;by_cases hlt:k<c+1
    ·obtain⟨x,hx⟩:∃x,xs[k]?=some x:=⟨_,gE (by rw[HL.out];omega)⟩
     have i0:=Rd.elem Ap HC.out k x hx 0 _ rfl;rw[Nat.mul_one,Nat.add_zero]at i0;have HX:Hid (xs[k]?=some x):=hx;clear hx;have hlt':(k:Int)<(c:Int)+1:=by omega
     by_cases hxy:x=y
     ·subst hxy
      have HT2:Hid (∀j,j<k+1->xs[j]?=some x):=fun j hj=>by
       by_cases e:j=k
       ·rw[e];exact HX.out
       ·exact HT.out j (by omega)
      go_wp2
      go_roundw
      case rel=>exact⟨k+1,by omega,by go_num,HT2,_,rfl⟩
      case measure=>simp[intOf];omega
     ·have HN:Hid (¬Fa xs c):=fun e=>by
       have:=e.one k (by omega);rw[HX.out,HY.out]at this;exact hxy (Option.some.inj this)
      have hxy':(x==y)=false:=by simpa using hxy
      have hxy'':(x != y)=true:=by simpa using hxy
      go_wp2
      go_ret
      exact⟨.no HN.out,Bc _ _ _⟩
    ·have hkn:k=c+1:=by omega
     subst hkn;have HY2:Hid (Fa xs c):=⟨by omega,by rw[HL.out];omega,HM.out,fun j hj=>by rw[HY.out];exact HT.out j (by omega)⟩;go_wp2;go_ret;exact⟨.yes HY2.out,Bc _ _ _⟩
  ·have HN:Hid (¬Fa xs c):=fun e=>q1 e.mask
   have q1':(bits .and .i64 (c:Int) ((c:Int)+1)==0)=false:=by simpa using q1
   clear H1;go_enter Tryz.func207,Tryz.ntmps207;go_wp2_with fail
   refine(AJ (c:Int) (n:Int) _).mono ?_;rintro e u ⟨rfl,rfl⟩;rw[hit];go_wp2
   go_ret
   exact⟨.no HN.out,Below.refl _ _⟩
 ·have HN:Hid (¬Fa xs c):=fun e=>q0 ⟨e.low,by have:=e.high;rw[HL.out]at this;exact this⟩
  have hit:decide (0<=c/\c<(n:Int))=false:=decide_eq_false q0
  clear H1;go_enter Tryz.func207,Tryz.ntmps207;go_wp2_with fail
  refine(AJ c (n:Int) _).mono ?_;rintro e u ⟨rfl,rfl⟩;rw[hit];go_wp2
  go_ret
  exact⟨.no HN.out,Below.refl _ _⟩
theorem CG{w:World}{base:Nat}{e:TypeId}{k n m c:Nat}{a:Option Addr}{xs:List Value}(h:w.ownsRow base e k (.slice a n c) m xs):n<=c:=by
 rcases h.2 with⟨e1,_⟩|⟨g,cap,cur,e1,_,_,hnc,_⟩
 ·simp only[sJ]at e1
  omega
 ·simp only[sJ]at e1
  omega
theorem C3{P:Program}{c:Code}{Q:Exit->Act->World->Prop}{a:Act}{U:World}(R:World->Prop)(h:R U)(k:∀u,R u->Code.wp P c Q a u):Code.wp P c Q a U:=k U h
theorem II{w u:World}(hb:Below w.heap.size w u){a:Addr}{x:Value}(h:w.cell? a=some x):u.cell? a=some x:=by rw[hb.cell (bL h)];exact h
structure Dg(w u:World)(v:VP)(t c n:Int)(x:VS)(g:VF)(r:Int)(fr:MG)(vl:Value):Prop where
 sb:Aq u (w.heap.size+1) #[.int .i64 t,.bool false,.int .i64 c,.int .i64 n,x.c,x.k,x.f] 39
 fb:Aq u (w.heap.size+1+1) #[g.p,.int .i64 r,g.l,g.c] 131
 gb:Aq u (w.heap.size+1+1+1) #[.int .i64 fr.func,.int .i64 fr.at_,.int .i64 fr.base,vl] 123
 rb:Aq u (w.heap.size+1+1+1+1) #[.int .i64 0,.bool false,.int .i64 0,.int .i64 0,.slice none 0 0,.slice none 0 0,.slice none 0 0] 39
 bel:Below w.heap.size w u
theorem Dg.keep{w u u':World}{v:VP}{t c n:Int}{x:VS}{g:VF}{r:Int}{fr:MG}{vl:Value}(h:Dg w u v t c n x g r fr vl)(hb:Below u.heap.size u u'):Dg w u' v t c n x g r fr vl:=⟨h.sb.keep hb,h.fb.keep hb,h.gb.keep hb,h.rb.keep hb,Ac h.bel lR hb⟩
theorem Dg.of(w:World)(v:VP)(t c n:Int)(x:VS)(g:VF)(r:Int)(fr:MG)(vl:Value):Dg w (((((w.alloc (.cells #[v.r,v.k,v.f,v.t] 45)).alloc (.cells #[.int .i64 t,.bool false,.int .i64 c,.int .i64 n,x.c,x.k,x.f] 39)).alloc (.cells #[g.p,.int .i64 r,g.l,g.c] 131)).alloc (.cells #[.int .i64 fr.func,.int .i64 fr.at_,.int .i64 fr.base,vl] 123)).alloc (.cells #[.int .i64 0,.bool false,.int .i64 0,.int .i64 0,.slice none 0 0,.slice none 0 0,.slice none 0 0] 39)) v t c n x g r fr vl:=by
 have b1:=Aa w (.cells #[v.r,v.k,v.f,v.t] 45);have k1:=Aq.new w #[v.r,v.k,v.f,v.t] 45;generalize hU1:w.alloc (.cells #[v.r,v.k,v.f,v.t] 45)=U1 at b1 k1⊢;have z1:U1.heap.size=w.heap.size+1:=by rw[<-hU1];simp
 have b2:=Aa U1 (.cells #[.int .i64 t,.bool false,.int .i64 c,.int .i64 n,x.c,x.k,x.f] 39);have k2:=Aq.new U1 #[.int .i64 t,.bool false,.int .i64 c,.int .i64 n,x.c,x.k,x.f] 39;rw[z1]at k2;generalize hU2:U1.alloc (.cells #[.int .i64 t,.bool false,.int .i64 c,.int .i64 n,x.c,x.k,x.f] 39)=U2 at b2 k2⊢;have z2:U2.heap.size=w.heap.size+1+1:=by rw[<-hU2];simp[z1]
 have b3:=Aa U2 (.cells #[g.p,.int .i64 r,g.l,g.c] 131);have k3:=Aq.new U2 #[g.p,.int .i64 r,g.l,g.c] 131;rw[z2]at k3;generalize hU3:U2.alloc (.cells #[g.p,.int .i64 r,g.l,g.c] 131)=U3 at b3 k3⊢;have z3:U3.heap.size=w.heap.size+1+1+1:=by rw[<-hU3];simp[z2]
 have b4:=Aa U3 (.cells #[.int .i64 fr.func,.int .i64 fr.at_,.int .i64 fr.base,vl] 123);have k4:=Aq.new U3 #[.int .i64 fr.func,.int .i64 fr.at_,.int .i64 fr.base,vl] 123;rw[z3]at k4;generalize hU4:U3.alloc (.cells #[.int .i64 fr.func,.int .i64 fr.at_,.int .i64 fr.base,vl] 123)=U4 at b4 k4⊢;have z4:U4.heap.size=w.heap.size+1+1+1+1:=by rw[<-hU4];simp[z3]
 have b5:=Aa U4 (.cells #[.int .i64 0,.bool false,.int .i64 0,.int .i64 0,.slice none 0 0,.slice none 0 0,.slice none 0 0] 39);have k5:=Aq.new U4 #[.int .i64 0,.bool false,.int .i64 0,.int .i64 0,.slice none 0 0,.slice none 0 0,.slice none 0 0] 39;rw[z4]at k5;exact⟨((k2.keep b3).keep b4).keep b5,(k3.keep b4).keep b5,k4.keep b5,k5,Ac (Ac (Ac (Ac b1 lR b2) lR b3) lR b4) lR b5⟩
theorem I7(v:VP)(t c n:Int)(x:VS)(C:List (Value×List MC))(K:List MC)(F:List (MG×Value))(B:Nat)(g:VF)(f:MF)(fr:MG)(vl:Value)(w:World)(hB:B<=w.heap.size)(h:Aj w B x C K F)(hg:∃a m c,vl=.slice a m c)(hf:(∃a m c,g.p=.slice a m c)/\(∃a m c,g.l=.slice a m c)/\(∃a m c,g.c=.slice a m c))(b:Nat)(hb:fr.base=(b:Int))(hbK:b<=K.length)(hK:K.length<=1048576)(hF:F.length<=1048576)(hF0:F≠[]):
  Calls Tryz.prog 76 #[.agg #[v.r,v.k,v.f,v.t],.agg #[.int .i64 t,.bool false,.int .i64 c,.int .i64 n,x.c,x.k,x.f],.agg #[g.p,.int .i64 f.result,g.l,g.c],.agg #[.int .i64 fr.func,.int .i64 fr.at_,.int .i64 fr.base,vl]] w fun e w'=>
   (((K.drop b).map MC.type≠AQ f/\e=.returned (.agg #[.int .i64 6,.bool false,.int .i64 c,.int .i64 n,x.c,x.k,x.f]))\/((K.drop b).map MC.type=AQ f/\∃vf,e=.returned (.agg #[.int .i64 t,.bool (decide (F.length=1)),.int .i64 c,.int .i64 n,x.c,x.k,vf])/\Aj w' B ⟨x.c,x.k,vf⟩ C K (F.take (F.length-1))))/\Below w.heap.size w w':=by
 have H:Hid (Aj w B x C K F/\F≠[]):=⟨h,hF0⟩
 obtain⟨a1,c1,e1⟩:=An h.cells;obtain⟨a2,c2,e2⟩:=An (h.fam.own (x.k,K) (by simp));obtain⟨a3,c3,e3⟩:=An h.frames;have hrow:=Au (h.fam.own (x.k,K) (by simp));have HRd:Hid (Rd w 2 x.k K.length (K.flatMap MC.cells)):=Rd.of_own (h.fam.own (x.k,K) (by simp));obtain⟨vc,vk',vf'⟩:=x;simp only[]at e1 e2 e3 hrow HRd;subst e1 e2 e3;obtain⟨al,ml,cl,rfl⟩:=hg;obtain⟨⟨g1,g2,g3,e1⟩,⟨g4,g5,g6,e2⟩,⟨g7,g8,g9,e3⟩⟩:=hf;obtain⟨gp,gl,gc⟩:=g;simp only[]at e1 e2 e3;subst e1 e2 e3;obtain⟨ff,fa,fbs,fls⟩:=fr;simp only[]at hb;subst hb;have hbI:(b:Int)<=(K.length:Int):=by omega
 have hF1:1<=F.length:=by
  cases F with
  |nil=>exact absurd rfl hF0
  |cons y r=>simp
 clear h hF0;have HRes:Hid (AQ f=if f.result=0 then[]else[f.result]):=rfl;generalize f.result=r at HRes;have E0:Hid _:=Dg.of w v t c n ⟨.slice a1 C.length c1,.slice a2 K.length c2,.slice a3 F.length c3⟩ ⟨.slice g1 g2 g3,.slice g4 g5 g6,.slice g7 g8 g9⟩ r ⟨ff,fa,b,fls⟩ (.slice al ml cl);go_enter Tryz.func76,Tryz.ntmps76;by_cases hlb:b<K.length
 ·rcases hrow with⟨_,e⟩|⟨gk,ck,e⟩
  ·omega
  simp only[sJ,true_and]at e;obtain⟨rfl,rfl⟩:=e;have hcap:K.length<=c2:=CG (H.out.1.fam.own (.slice (some ⟨gk,0,none⟩) K.length c2,K) (by simp));have hne:¬c2=b:=by omega
  obtain⟨y,hy⟩:∃y,K[b]?=some y:=⟨_,gE hlb⟩;rcases HRd.out.2 with⟨e0,_⟩|⟨g',o',c',e1,hc⟩
  ·omega
  simp only[sJ,true_and,Option.some.injEq,Addr.mk.injEq,and_true]at e1;obtain⟨⟨rfl,rfl⟩,rfl⟩:=e1;have k1:=Rd.elem MC.cells_length hc b y hy 0 _ rfl;rw[Nat.add_zero,Nat.zero_add]at k1
  have HD:Hid (K.drop b=y::K.drop (b+1)):=by
   obtain⟨hl,rfl⟩:=gI.1 hy;exact List.drop_eq_getElem_cons hl
  have HK1:Hid _:=k1;clear hc hy k1;by_cases hr:r=0
  ·have HN:Hid ((K.drop b).map MC.type≠AQ f):=by show _≠_;rw[HD.out];rw[HRes.out,if_pos hr];simp
   have hr':(r != 0)=false:=by simpa using hr
   have hr2:(r==0)=true:=by simpa using hr
   have hl0:((K.length-b:Nat):Int)≠0:=by omega
   have hl1:(((K.length-b:Nat):Int)==0)=false:=by simp;omega
   have hl2:(((K.length-b:Nat):Int) != 0)=true:=by simp;omega
   subst hr;go_wp2_with fail
   refine C3 (fun u=>Hid (Dg w u v t c n ⟨.slice a1 C.length c1,.slice (some ⟨gk,0,none⟩) K.length c2,.slice a3 F.length c3⟩ ⟨.slice g1 g2 g3,.slice g4 g5 g6,.slice g7 g8 g9⟩ 0 ⟨ff,fa,b,fls⟩ (.slice al ml cl))) E0 ?_;rintro W0 HI0;clear E0;have inst:=Ae.some W0;have fres:=HI0.out.fb.cell 1;simp only[gA,gZ,gS]at fres;have FR:=fun n:Ae W0=>Ae.cell fres n
   refine Ak (by kernel_rfl) (by kernel_rfl) ?_;repeat(go_big_quiet_step (fail))
   refine wpQuiet_nil ?_;rintro w'' ⟨n',rfl⟩;have HI:Hid (Dg w n'.u v t c n ⟨.slice a1 C.length c1,.slice (some ⟨gk,0,none⟩) K.length c2,.slice a3 F.length c3⟩ ⟨.slice g1 g2 g3,.slice g4 g5 g6,.slice g7 g8 g9⟩ 0 ⟨ff,fa,b,fls⟩ (.slice al ml cl)):=HI0.out.keep n'.h;clear FR inst fres HI0;generalize n'.u=W at HI⊢;obtain⟨m0,m1,m2,m3,m4,m5,m6⟩:=HI.out.sb.c7;try dsimp only at m0 m1 m2 m3 m4 m5 m6
   go_wp2_with fail
   refine(Br t c n 6 false a1 (some ⟨gk,0,none⟩) a3 C.length c1 K.length c2 F.length c3 _).mono ?_;rintro e u2 ⟨rfl,bl2⟩;have HI2:Hid (Dg w u2 v t c n ⟨.slice a1 C.length c1,.slice (some ⟨gk,0,none⟩) K.length c2,.slice a3 F.length c3⟩ ⟨.slice g1 g2 g3,.slice g4 g5 g6,.slice g7 g8 g9⟩ 0 ⟨ff,fa,b,fls⟩ (.slice al ml cl)):=HI.out.keep bl2;clear bl2 HI m0 m1 m2 m3 m4 m5 m6;obtain⟨r0,r1,r2,r3,r4,r5,r6⟩:=HI2.out.rb.c7;obtain⟨rz0,rz1,rz2,rz3,rz4,rz5,rz6⟩:=HI2.out.rb.z7;try dsimp only at r0 r1 r2 r3 r4 r5 r6
   go_wp2_with fail
   exact bodyPost_ret (results_cell_row Tryz.results76 _ _ _ 39 _ (0,0) _ rfl (HI2.out.rb.w7 _ _ _ _ _ _ _) Tryz.underlying39 rfl (by kernel_rfl)) rfl ⟨.inl ⟨HN.out,rfl⟩,KB HI2.out.bel (by omega) _ _ _ _ _ _ _⟩
  ·have hr':(r != 0)=true:=by simpa using hr
   have hr2:(r==0)=false:=by simpa using hr
   by_cases hl:K.length-b=1
   ·have HD2:Hid ((K.drop b).map MC.type=[y.type]):=by
     show _=_;rw[HD.out,List.map_cons];have:(K.drop (b+1))=[]:=List.drop_eq_nil_of_le (by omega);rw[this];rfl
    have hl0:((K.length-b:Nat):Int)=1:=by omega
    have hl1:(((K.length-b:Nat):Int)==1)=true:=by simp;omega
    have hl2:(((K.length-b:Nat):Int) != 1)=false:=by simp;omega
    by_cases hty:y.type=r
    ·have HY:Hid ((K.drop b).map MC.type=AQ f):=by show _=_;rw[HD2.out];rw[HRes.out,if_neg hr,hty]
     have ht1:(y.type==r)=true:=by simpa using hty
     have ht2:(y.type != r)=false:=by simpa using hty
     go_wp2_with fail
     refine C3 (fun u=>Hid (Dg w u v t c n ⟨.slice a1 C.length c1,.slice (some ⟨gk,0,none⟩) K.length c2,.slice a3 F.length c3⟩ ⟨.slice g1 g2 g3,.slice g4 g5 g6,.slice g7 g8 g9⟩ r ⟨ff,fa,b,fls⟩ (.slice al ml cl))) E0 ?_;rintro W0 HI0;clear E0;have inst:=Ae.some W0;have fres:=HI0.out.fb.cell 1;simp only[gA,gZ,gS]at fres;have FR:=fun n:Ae W0=>Ae.cell fres n
     have k1:=II HI0.out.bel HK1.out;have KK:=fun n:Ae W0=>Ae.cell k1 n
     refine Ak (by kernel_rfl) (by kernel_rfl) ?_;repeat(go_big_quiet_step (fail))
     refine wpQuiet_nil ?_;rintro w'' ⟨n',rfl⟩;have HI:Hid (Dg w n'.u v t c n ⟨.slice a1 C.length c1,.slice (some ⟨gk,0,none⟩) K.length c2,.slice a3 F.length c3⟩ ⟨.slice g1 g2 g3,.slice g4 g5 g6,.slice g7 g8 g9⟩ r ⟨ff,fa,b,fls⟩ (.slice al ml cl)):=HI0.out.keep n'.h;clear FR inst fres HI0 KK k1;generalize n'.u=W at HI⊢;obtain⟨m0,m1,m2,m3,m4,m5,m6⟩:=HI.out.sb.c7;obtain⟨mz0,mz1,mz2,mz3,mz4,mz5,mz6⟩:=HI.out.sb.z7;try dsimp only at m0 m1 m2 m3 m4 m5 m6
     obtain⟨r0,r1,r2,r3,r4,r5,r6⟩:=HI.out.rb.c7;obtain⟨rz0,rz1,rz2,rz3,rz4,rz5,rz6⟩:=HI.out.rb.z7;try dsimp only at r0 r1 r2 r3 r4 r5 r6
     have nsr:¬w.heap.size+1=w.heap.size+1+1+1+1:=by omega
     by_cases hF2:F.length=1
     ·have hF2':((F.length:Int)==1)=true:=by simp;omega
      have hd:decide (F.length=1)=true:=by simpa using hF2
      have HT:Hid (F.take (F.length-1)=[]):=by show _=_;rw[hF2];rfl
      have S1:=HI.out.sb.set 1 (.bool true);have S2:=S1.set 6 (.slice none 0 0);have HW:Hid (Aj ((W.setCell ⟨w.heap.size+1,1,none⟩ (.bool true)).setCell ⟨w.heap.size+1,6,none⟩ (.slice none 0 0)) B ⟨.slice a1 C.length c1,.slice (some ⟨gk,0,none⟩) K.length c2,.slice none 0 0⟩ C K []/\Aq ((W.setCell ⟨w.heap.size+1,1,none⟩ (.bool true)).setCell ⟨w.heap.size+1,6,none⟩ (.slice none 0 0)) (w.heap.size+1+1+1+1) #[.int .i64 0,.bool false,.int .i64 0,.int .i64 0,.slice none 0 0,.slice none 0 0,.slice none 0 0] 39/\Below w.heap.size w ((W.setCell ⟨w.heap.size+1,1,none⟩ (.bool true)).setCell ⟨w.heap.size+1,6,none⟩ (.slice none 0 0))):=⟨(((H.out.1.grow HI.out.bel).noF).other HI.out.sb (by decide) (by decide) (by decide) 1 _).other S1 (by decide) (by decide) (by decide) 6 _,(HI.out.rb.other (by simp only[];omega) _).other (by simp only[];omega) _,(HI.out.bel.setCell (by simp only[];omega) _).setCell (by simp only[];omega) _⟩
      clear S1 S2;go_wp2_with fail
      rw[HT.out];exact bodyPost_ret (results_cell_row Tryz.results76 _ _ _ 39 _ (0,0) _ rfl (HW.out.2.1.w7 _ _ _ _ _ _ _) Tryz.underlying39 rfl (by kernel_rfl)) rfl ⟨.inr ⟨HY.out,_,by rw[hd],HW.out.1.o7 HW.out.2.1 _ _ _ _ _ _ _⟩,KB HW.out.2.2 (by omega) _ _ _ _ _ _ _⟩
     ·have hF2':((F.length:Int)==1)=false:=by simp;omega
      have hd:decide (F.length=1)=false:=by simpa using hF2
      have hc3:F.length<=c3:=CG H.out.1.frames;have hFN:((F.length:Int)-1)=((F.length-1:Nat):Int):=by omega
      have S1:=HI.out.sb.set 6 (.slice a3 (F.length-1) c3);have HW:Hid (Aj (W.setCell ⟨w.heap.size+1,6,none⟩ (.slice a3 (F.length-1) c3)) B ⟨.slice a1 C.length c1,.slice (some ⟨gk,0,none⟩) K.length c2,.slice a3 (F.length-1) c3⟩ C K (F.take (F.length-1))/\Aq (W.setCell ⟨w.heap.size+1,6,none⟩ (.slice a3 (F.length-1) c3)) (w.heap.size+1+1+1+1) #[.int .i64 0,.bool false,.int .i64 0,.int .i64 0,.slice none 0 0,.slice none 0 0,.slice none 0 0] 39/\Below w.heap.size w (W.setCell ⟨w.heap.size+1,6,none⟩ (.slice a3 (F.length-1) c3))):=⟨((H.out.1.grow HI.out.bel).popF rfl (Nat.sub_le _ _)).other HI.out.sb (by decide) (by decide) (by decide) 6 _,HI.out.rb.other (by simp only[];omega) _,HI.out.bel.setCell (by simp only[];omega) _⟩
      clear S1;go_wp2_with fail
      exact bodyPost_ret (results_cell_row Tryz.results76 _ _ _ 39 _ (0,0) _ rfl (HW.out.2.1.w7 _ _ _ _ _ _ _) Tryz.underlying39 rfl (by kernel_rfl)) rfl ⟨.inr ⟨HY.out,_,by rw[hd],HW.out.1.o7 HW.out.2.1 _ _ _ _ _ _ _⟩,KB HW.out.2.2 (by omega) _ _ _ _ _ _ _⟩
    ·have HN:Hid ((K.drop b).map MC.type≠AQ f):=by show _≠_;rw[HD2.out];rw[HRes.out,if_neg hr];simpa using hty
     have ht1:(y.type==r)=false:=by simpa using hty
     have ht2:(y.type != r)=true:=by simpa using hty
     go_wp2_with fail
     refine C3 (fun u=>Hid (Dg w u v t c n ⟨.slice a1 C.length c1,.slice (some ⟨gk,0,none⟩) K.length c2,.slice a3 F.length c3⟩ ⟨.slice g1 g2 g3,.slice g4 g5 g6,.slice g7 g8 g9⟩ r ⟨ff,fa,b,fls⟩ (.slice al ml cl))) E0 ?_;rintro W0 HI0;clear E0;have inst:=Ae.some W0;have fres:=HI0.out.fb.cell 1;simp only[gA,gZ,gS]at fres;have FR:=fun n:Ae W0=>Ae.cell fres n
     have k1:=II HI0.out.bel HK1.out;have KK:=fun n:Ae W0=>Ae.cell k1 n
     refine Ak (by kernel_rfl) (by kernel_rfl) ?_;repeat(go_big_quiet_step (fail))
     refine wpQuiet_nil ?_;rintro w'' ⟨n',rfl⟩;have HI:Hid (Dg w n'.u v t c n ⟨.slice a1 C.length c1,.slice (some ⟨gk,0,none⟩) K.length c2,.slice a3 F.length c3⟩ ⟨.slice g1 g2 g3,.slice g4 g5 g6,.slice g7 g8 g9⟩ r ⟨ff,fa,b,fls⟩ (.slice al ml cl)):=HI0.out.keep n'.h;clear FR inst fres HI0 KK k1;generalize n'.u=W at HI⊢;obtain⟨m0,m1,m2,m3,m4,m5,m6⟩:=HI.out.sb.c7;try dsimp only at m0 m1 m2 m3 m4 m5 m6
     go_wp2_with fail
     refine(Br t c n 6 false a1 (some ⟨gk,0,none⟩) a3 C.length c1 K.length c2 F.length c3 _).mono ?_;rintro e u2 ⟨rfl,bl2⟩;have HI2:Hid (Dg w u2 v t c n ⟨.slice a1 C.length c1,.slice (some ⟨gk,0,none⟩) K.length c2,.slice a3 F.length c3⟩ ⟨.slice g1 g2 g3,.slice g4 g5 g6,.slice g7 g8 g9⟩ r ⟨ff,fa,b,fls⟩ (.slice al ml cl)):=HI.out.keep bl2;clear bl2 HI m0 m1 m2 m3 m4 m5 m6;obtain⟨r0,r1,r2,r3,r4,r5,r6⟩:=HI2.out.rb.c7;obtain⟨rz0,rz1,rz2,rz3,rz4,rz5,rz6⟩:=HI2.out.rb.z7;try dsimp only at r0 r1 r2 r3 r4 r5 r6
     go_wp2_with fail
     exact bodyPost_ret (results_cell_row Tryz.results76 _ _ _ 39 _ (0,0) _ rfl (HI2.out.rb.w7 _ _ _ _ _ _ _) Tryz.underlying39 rfl (by kernel_rfl)) rfl ⟨.inl ⟨HN.out,rfl⟩,KB HI2.out.bel (by omega) _ _ _ _ _ _ _⟩
   ·have HN:Hid ((K.drop b).map MC.type≠AQ f):=by
     intro e;have:=congrArg List.length e;rw[HRes.out,if_neg hr,List.length_map,List.length_drop]at this;exact hl this
    have hl0:((K.length-b:Nat):Int)≠1:=by omega
    have hl1:(((K.length-b:Nat):Int)==1)=false:=by simp;omega
    have hl2:(((K.length-b:Nat):Int) != 1)=true:=by simp;omega
    go_wp2_with fail
    refine C3 (fun u=>Hid (Dg w u v t c n ⟨.slice a1 C.length c1,.slice (some ⟨gk,0,none⟩) K.length c2,.slice a3 F.length c3⟩ ⟨.slice g1 g2 g3,.slice g4 g5 g6,.slice g7 g8 g9⟩ r ⟨ff,fa,b,fls⟩ (.slice al ml cl))) E0 ?_;rintro W0 HI0;clear E0;have inst:=Ae.some W0;have fres:=HI0.out.fb.cell 1;simp only[gA,gZ,gS]at fres;have FR:=fun n:Ae W0=>Ae.cell fres n
    refine Ak (by kernel_rfl) (by kernel_rfl) ?_;repeat(go_big_quiet_step (fail))
    refine wpQuiet_nil ?_;rintro w'' ⟨n',rfl⟩;have HI:Hid (Dg w n'.u v t c n ⟨.slice a1 C.length c1,.slice (some ⟨gk,0,none⟩) K.length c2,.slice a3 F.length c3⟩ ⟨.slice g1 g2 g3,.slice g4 g5 g6,.slice g7 g8 g9⟩ r ⟨ff,fa,b,fls⟩ (.slice al ml cl)):=HI0.out.keep n'.h;clear FR inst fres HI0;generalize n'.u=W at HI⊢;obtain⟨m0,m1,m2,m3,m4,m5,m6⟩:=HI.out.sb.c7;try dsimp only at m0 m1 m2 m3 m4 m5 m6
    go_wp2_with fail
    refine(Br t c n 6 false a1 (some ⟨gk,0,none⟩) a3 C.length c1 K.length c2 F.length c3 _).mono ?_;rintro e u2 ⟨rfl,bl2⟩;have HI2:Hid (Dg w u2 v t c n ⟨.slice a1 C.length c1,.slice (some ⟨gk,0,none⟩) K.length c2,.slice a3 F.length c3⟩ ⟨.slice g1 g2 g3,.slice g4 g5 g6,.slice g7 g8 g9⟩ r ⟨ff,fa,b,fls⟩ (.slice al ml cl)):=HI.out.keep bl2;clear bl2 HI m0 m1 m2 m3 m4 m5 m6;obtain⟨r0,r1,r2,r3,r4,r5,r6⟩:=HI2.out.rb.c7;obtain⟨rz0,rz1,rz2,rz3,rz4,rz5,rz6⟩:=HI2.out.rb.z7;try dsimp only at r0 r1 r2 r3 r4 r5 r6
    go_wp2_with fail
    exact bodyPost_ret (results_cell_row Tryz.results76 _ _ _ 39 _ (0,0) _ rfl (HI2.out.rb.w7 _ _ _ _ _ _ _) Tryz.underlying39 rfl (by kernel_rfl)) rfl ⟨.inl ⟨HN.out,rfl⟩,KB HI2.out.bel (by omega) _ _ _ _ _ _ _⟩
 ·obtain rfl:b=K.length:=by omega
  have HD:Hid (K.drop K.length=[]):=List.drop_length;have hcap:K.length<=c2:=CG (H.out.1.fam.own (.slice a2 K.length c2,K) (by simp));have hsub:K.length-K.length=0:=Nat.sub_self _;clear hrow;by_cases hce:c2=K.length
  ·subst hce
   by_cases hr:r=0
   ·have HY:Hid ((K.drop K.length).map MC.type=AQ f):=by show _=_;rw[HD.out,HRes.out,if_pos hr];rfl
    have hr':(r != 0)=false:=by simpa using hr
    have hr2:(r==0)=true:=by simpa using hr
    subst hr;go_wp2_with fail
    refine C3 (fun u=>Hid (Dg w u v t c n ⟨.slice a1 C.length c1,.slice a2 K.length K.length,.slice a3 F.length c3⟩ ⟨.slice g1 g2 g3,.slice g4 g5 g6,.slice g7 g8 g9⟩ 0 ⟨ff,fa,(K.length:Int),fls⟩ (.slice al ml cl))) E0 ?_;rintro W0 HI0;clear E0;have inst:=Ae.some W0;have fres:=HI0.out.fb.cell 1;simp only[gA,gZ,gS]at fres;have FR:=fun n:Ae W0=>Ae.cell fres n
    refine Ak (by kernel_rfl) (by kernel_rfl) ?_;repeat(go_big_quiet_step (fail))
    refine wpQuiet_nil ?_;rintro w'' ⟨n',rfl⟩;have HI:Hid (Dg w n'.u v t c n ⟨.slice a1 C.length c1,.slice a2 K.length K.length,.slice a3 F.length c3⟩ ⟨.slice g1 g2 g3,.slice g4 g5 g6,.slice g7 g8 g9⟩ 0 ⟨ff,fa,(K.length:Int),fls⟩ (.slice al ml cl)):=HI0.out.keep n'.h;clear FR inst fres HI0;generalize n'.u=W at HI⊢;obtain⟨m0,m1,m2,m3,m4,m5,m6⟩:=HI.out.sb.c7;obtain⟨mz0,mz1,mz2,mz3,mz4,mz5,mz6⟩:=HI.out.sb.z7;try dsimp only at m0 m1 m2 m3 m4 m5 m6
    obtain⟨r0,r1,r2,r3,r4,r5,r6⟩:=HI.out.rb.c7;obtain⟨rz0,rz1,rz2,rz3,rz4,rz5,rz6⟩:=HI.out.rb.z7;try dsimp only at r0 r1 r2 r3 r4 r5 r6
    have nsr:¬w.heap.size+1=w.heap.size+1+1+1+1:=by omega
    by_cases hF2:F.length=1
    ·have hF2':((F.length:Int)==1)=true:=by simp;omega
     have hd:decide (F.length=1)=true:=by simpa using hF2
     have HT:Hid (F.take (F.length-1)=[]):=by show _=_;rw[hF2];rfl
     have S1:=HI.out.sb.set 1 (.bool true);have S2:=S1.set 6 (.slice none 0 0);have HW:Hid (Aj ((W.setCell ⟨w.heap.size+1,1,none⟩ (.bool true)).setCell ⟨w.heap.size+1,6,none⟩ (.slice none 0 0)) B ⟨.slice a1 C.length c1,.slice a2 K.length K.length,.slice none 0 0⟩ C K []/\Aq ((W.setCell ⟨w.heap.size+1,1,none⟩ (.bool true)).setCell ⟨w.heap.size+1,6,none⟩ (.slice none 0 0)) (w.heap.size+1+1+1+1) #[.int .i64 0,.bool false,.int .i64 0,.int .i64 0,.slice none 0 0,.slice none 0 0,.slice none 0 0] 39/\Below w.heap.size w ((W.setCell ⟨w.heap.size+1,1,none⟩ (.bool true)).setCell ⟨w.heap.size+1,6,none⟩ (.slice none 0 0))):=⟨(((H.out.1.grow HI.out.bel).noF).other HI.out.sb (by decide) (by decide) (by decide) 1 _).other S1 (by decide) (by decide) (by decide) 6 _,(HI.out.rb.other (by simp only[];omega) _).other (by simp only[];omega) _,(HI.out.bel.setCell (by simp only[];omega) _).setCell (by simp only[];omega) _⟩
     clear S1 S2;go_wp2_with fail
     rw[HT.out];exact bodyPost_ret (results_cell_row Tryz.results76 _ _ _ 39 _ (0,0) _ rfl (HW.out.2.1.w7 _ _ _ _ _ _ _) Tryz.underlying39 rfl (by kernel_rfl)) rfl ⟨.inr ⟨HY.out,_,by rw[hd],HW.out.1.o7 HW.out.2.1 _ _ _ _ _ _ _⟩,KB HW.out.2.2 (by omega) _ _ _ _ _ _ _⟩
    ·have hF2':((F.length:Int)==1)=false:=by simp;omega
     have hd:decide (F.length=1)=false:=by simpa using hF2
     have hc3:F.length<=c3:=CG H.out.1.frames;have hFN:((F.length:Int)-1)=((F.length-1:Nat):Int):=by omega
     have S1:=HI.out.sb.set 6 (.slice a3 (F.length-1) c3);have HW:Hid (Aj (W.setCell ⟨w.heap.size+1,6,none⟩ (.slice a3 (F.length-1) c3)) B ⟨.slice a1 C.length c1,.slice a2 K.length K.length,.slice a3 (F.length-1) c3⟩ C K (F.take (F.length-1))/\Aq (W.setCell ⟨w.heap.size+1,6,none⟩ (.slice a3 (F.length-1) c3)) (w.heap.size+1+1+1+1) #[.int .i64 0,.bool false,.int .i64 0,.int .i64 0,.slice none 0 0,.slice none 0 0,.slice none 0 0] 39/\Below w.heap.size w (W.setCell ⟨w.heap.size+1,6,none⟩ (.slice a3 (F.length-1) c3))):=⟨((H.out.1.grow HI.out.bel).popF rfl (Nat.sub_le _ _)).other HI.out.sb (by decide) (by decide) (by decide) 6 _,HI.out.rb.other (by simp only[];omega) _,HI.out.bel.setCell (by simp only[];omega) _⟩
     clear S1;go_wp2_with fail
     exact bodyPost_ret (results_cell_row Tryz.results76 _ _ _ 39 _ (0,0) _ rfl (HW.out.2.1.w7 _ _ _ _ _ _ _) Tryz.underlying39 rfl (by kernel_rfl)) rfl ⟨.inr ⟨HY.out,_,by rw[hd],HW.out.1.o7 HW.out.2.1 _ _ _ _ _ _ _⟩,KB HW.out.2.2 (by omega) _ _ _ _ _ _ _⟩
   ·have HN:Hid ((K.drop K.length).map MC.type≠AQ f):=by show _≠_;rw[HD.out,HRes.out,if_neg hr];simp
    have hr':(r != 0)=true:=by simpa using hr
    have hr2:(r==0)=false:=by simpa using hr
    go_wp2_with fail
    refine C3 (fun u=>Hid (Dg w u v t c n ⟨.slice a1 C.length c1,.slice a2 K.length K.length,.slice a3 F.length c3⟩ ⟨.slice g1 g2 g3,.slice g4 g5 g6,.slice g7 g8 g9⟩ r ⟨ff,fa,(K.length:Int),fls⟩ (.slice al ml cl))) E0 ?_;rintro W0 HI0;clear E0;have inst:=Ae.some W0;have fres:=HI0.out.fb.cell 1;simp only[gA,gZ,gS]at fres;have FR:=fun n:Ae W0=>Ae.cell fres n
    refine Ak (by kernel_rfl) (by kernel_rfl) ?_;repeat(go_big_quiet_step (fail))
    refine wpQuiet_nil ?_;rintro w'' ⟨n',rfl⟩;have HI:Hid (Dg w n'.u v t c n ⟨.slice a1 C.length c1,.slice a2 K.length K.length,.slice a3 F.length c3⟩ ⟨.slice g1 g2 g3,.slice g4 g5 g6,.slice g7 g8 g9⟩ r ⟨ff,fa,(K.length:Int),fls⟩ (.slice al ml cl)):=HI0.out.keep n'.h;clear FR inst fres HI0;generalize n'.u=W at HI⊢;obtain⟨m0,m1,m2,m3,m4,m5,m6⟩:=HI.out.sb.c7;try dsimp only at m0 m1 m2 m3 m4 m5 m6
    go_wp2_with fail
    refine(Br t c n 6 false a1 a2 a3 C.length c1 K.length K.length F.length c3 _).mono ?_;rintro e u2 ⟨rfl,bl2⟩;have HI2:Hid (Dg w u2 v t c n ⟨.slice a1 C.length c1,.slice a2 K.length K.length,.slice a3 F.length c3⟩ ⟨.slice g1 g2 g3,.slice g4 g5 g6,.slice g7 g8 g9⟩ r ⟨ff,fa,(K.length:Int),fls⟩ (.slice al ml cl)):=HI.out.keep bl2;clear bl2 HI m0 m1 m2 m3 m4 m5 m6;obtain⟨r0,r1,r2,r3,r4,r5,r6⟩:=HI2.out.rb.c7;obtain⟨rz0,rz1,rz2,rz3,rz4,rz5,rz6⟩:=HI2.out.rb.z7;try dsimp only at r0 r1 r2 r3 r4 r5 r6
    go_wp2_with fail
    exact bodyPost_ret (results_cell_row Tryz.results76 _ _ _ 39 _ (0,0) _ rfl (HI2.out.rb.w7 _ _ _ _ _ _ _) Tryz.underlying39 rfl (by kernel_rfl)) rfl ⟨.inl ⟨HN.out,rfl⟩,KB HI2.out.bel (by omega) _ _ _ _ _ _ _⟩
  ·have hce':¬c2=K.length:=hce
   by_cases hr:r=0
   ·have HY:Hid ((K.drop K.length).map MC.type=AQ f):=by show _=_;rw[HD.out,HRes.out,if_pos hr];rfl
    have hr':(r != 0)=false:=by simpa using hr
    have hr2:(r==0)=true:=by simpa using hr
    subst hr;go_wp2_with fail
    refine C3 (fun u=>Hid (Dg w u v t c n ⟨.slice a1 C.length c1,.slice a2 K.length c2,.slice a3 F.length c3⟩ ⟨.slice g1 g2 g3,.slice g4 g5 g6,.slice g7 g8 g9⟩ 0 ⟨ff,fa,(K.length:Int),fls⟩ (.slice al ml cl))) E0 ?_;rintro W0 HI0;clear E0;have inst:=Ae.some W0;have fres:=HI0.out.fb.cell 1;simp only[gA,gZ,gS]at fres;have FR:=fun n:Ae W0=>Ae.cell fres n
    refine Ak (by kernel_rfl) (by kernel_rfl) ?_;repeat(go_big_quiet_step (fail))
    refine wpQuiet_nil ?_;rintro w'' ⟨n',rfl⟩;have HI:Hid (Dg w n'.u v t c n ⟨.slice a1 C.length c1,.slice a2 K.length c2,.slice a3 F.length c3⟩ ⟨.slice g1 g2 g3,.slice g4 g5 g6,.slice g7 g8 g9⟩ 0 ⟨ff,fa,(K.length:Int),fls⟩ (.slice al ml cl)):=HI0.out.keep n'.h;clear FR inst fres HI0;generalize n'.u=W at HI⊢;obtain⟨m0,m1,m2,m3,m4,m5,m6⟩:=HI.out.sb.c7;obtain⟨mz0,mz1,mz2,mz3,mz4,mz5,mz6⟩:=HI.out.sb.z7;try dsimp only at m0 m1 m2 m3 m4 m5 m6
    obtain⟨r0,r1,r2,r3,r4,r5,r6⟩:=HI.out.rb.c7;obtain⟨rz0,rz1,rz2,rz3,rz4,rz5,rz6⟩:=HI.out.rb.z7;try dsimp only at r0 r1 r2 r3 r4 r5 r6
    have nsr:¬w.heap.size+1=w.heap.size+1+1+1+1:=by omega
    by_cases hF2:F.length=1
    ·have hF2':((F.length:Int)==1)=true:=by simp;omega
     have hd:decide (F.length=1)=true:=by simpa using hF2
     have HT:Hid (F.take (F.length-1)=[]):=by show _=_;rw[hF2];rfl
     have S1:=HI.out.sb.set 1 (.bool true);have S2:=S1.set 6 (.slice none 0 0);have HW:Hid (Aj ((W.setCell ⟨w.heap.size+1,1,none⟩ (.bool true)).setCell ⟨w.heap.size+1,6,none⟩ (.slice none 0 0)) B ⟨.slice a1 C.length c1,.slice a2 K.length c2,.slice none 0 0⟩ C K []/\Aq ((W.setCell ⟨w.heap.size+1,1,none⟩ (.bool true)).setCell ⟨w.heap.size+1,6,none⟩ (.slice none 0 0)) (w.heap.size+1+1+1+1) #[.int .i64 0,.bool false,.int .i64 0,.int .i64 0,.slice none 0 0,.slice none 0 0,.slice none 0 0] 39/\Below w.heap.size w ((W.setCell ⟨w.heap.size+1,1,none⟩ (.bool true)).setCell ⟨w.heap.size+1,6,none⟩ (.slice none 0 0))):=⟨(((H.out.1.grow HI.out.bel).noF).other HI.out.sb (by decide) (by decide) (by decide) 1 _).other S1 (by decide) (by decide) (by decide) 6 _,(HI.out.rb.other (by simp only[];omega) _).other (by simp only[];omega) _,(HI.out.bel.setCell (by simp only[];omega) _).setCell (by simp only[];omega) _⟩
     clear S1 S2;go_wp2_with fail
     rw[HT.out];exact bodyPost_ret (results_cell_row Tryz.results76 _ _ _ 39 _ (0,0) _ rfl (HW.out.2.1.w7 _ _ _ _ _ _ _) Tryz.underlying39 rfl (by kernel_rfl)) rfl ⟨.inr ⟨HY.out,_,by rw[hd],HW.out.1.o7 HW.out.2.1 _ _ _ _ _ _ _⟩,KB HW.out.2.2 (by omega) _ _ _ _ _ _ _⟩
    ·have hF2':((F.length:Int)==1)=false:=by simp;omega
     have hd:decide (F.length=1)=false:=by simpa using hF2
     have hc3:F.length<=c3:=CG H.out.1.frames;have hFN:((F.length:Int)-1)=((F.length-1:Nat):Int):=by omega
     have S1:=HI.out.sb.set 6 (.slice a3 (F.length-1) c3);have HW:Hid (Aj (W.setCell ⟨w.heap.size+1,6,none⟩ (.slice a3 (F.length-1) c3)) B ⟨.slice a1 C.length c1,.slice a2 K.length c2,.slice a3 (F.length-1) c3⟩ C K (F.take (F.length-1))/\Aq (W.setCell ⟨w.heap.size+1,6,none⟩ (.slice a3 (F.length-1) c3)) (w.heap.size+1+1+1+1) #[.int .i64 0,.bool false,.int .i64 0,.int .i64 0,.slice none 0 0,.slice none 0 0,.slice none 0 0] 39/\Below w.heap.size w (W.setCell ⟨w.heap.size+1,6,none⟩ (.slice a3 (F.length-1) c3))):=⟨((H.out.1.grow HI.out.bel).popF rfl (Nat.sub_le _ _)).other HI.out.sb (by decide) (by decide) (by decide) 6 _,HI.out.rb.other (by simp only[];omega) _,HI.out.bel.setCell (by simp only[];omega) _⟩
     clear S1;go_wp2_with fail
     exact bodyPost_ret (results_cell_row Tryz.results76 _ _ _ 39 _ (0,0) _ rfl (HW.out.2.1.w7 _ _ _ _ _ _ _) Tryz.underlying39 rfl (by kernel_rfl)) rfl ⟨.inr ⟨HY.out,_,by rw[hd],HW.out.1.o7 HW.out.2.1 _ _ _ _ _ _ _⟩,KB HW.out.2.2 (by omega) _ _ _ _ _ _ _⟩
   ·have HN:Hid ((K.drop K.length).map MC.type≠AQ f):=by show _≠_;rw[HD.out,HRes.out,if_neg hr];simp
    have hr':(r != 0)=true:=by simpa using hr
    have hr2:(r==0)=false:=by simpa using hr
    go_wp2_with fail
    refine C3 (fun u=>Hid (Dg w u v t c n ⟨.slice a1 C.length c1,.slice a2 K.length c2,.slice a3 F.length c3⟩ ⟨.slice g1 g2 g3,.slice g4 g5 g6,.slice g7 g8 g9⟩ r ⟨ff,fa,(K.length:Int),fls⟩ (.slice al ml cl))) E0 ?_;rintro W0 HI0;clear E0;have inst:=Ae.some W0;have fres:=HI0.out.fb.cell 1;simp only[gA,gZ,gS]at fres;have FR:=fun n:Ae W0=>Ae.cell fres n
    refine Ak (by kernel_rfl) (by kernel_rfl) ?_;repeat(go_big_quiet_step (fail))
    refine wpQuiet_nil ?_;rintro w'' ⟨n',rfl⟩;have HI:Hid (Dg w n'.u v t c n ⟨.slice a1 C.length c1,.slice a2 K.length c2,.slice a3 F.length c3⟩ ⟨.slice g1 g2 g3,.slice g4 g5 g6,.slice g7 g8 g9⟩ r ⟨ff,fa,(K.length:Int),fls⟩ (.slice al ml cl)):=HI0.out.keep n'.h;clear FR inst fres HI0;generalize n'.u=W at HI⊢;obtain⟨m0,m1,m2,m3,m4,m5,m6⟩:=HI.out.sb.c7;try dsimp only at m0 m1 m2 m3 m4 m5 m6
    go_wp2_with fail
    refine(Br t c n 6 false a1 a2 a3 C.length c1 K.length c2 F.length c3 _).mono ?_;rintro e u2 ⟨rfl,bl2⟩;have HI2:Hid (Dg w u2 v t c n ⟨.slice a1 C.length c1,.slice a2 K.length c2,.slice a3 F.length c3⟩ ⟨.slice g1 g2 g3,.slice g4 g5 g6,.slice g7 g8 g9⟩ r ⟨ff,fa,(K.length:Int),fls⟩ (.slice al ml cl)):=HI.out.keep bl2;clear bl2 HI m0 m1 m2 m3 m4 m5 m6;obtain⟨r0,r1,r2,r3,r4,r5,r6⟩:=HI2.out.rb.c7;obtain⟨rz0,rz1,rz2,rz3,rz4,rz5,rz6⟩:=HI2.out.rb.z7;try dsimp only at r0 r1 r2 r3 r4 r5 r6
    go_wp2_with fail
    exact bodyPost_ret (results_cell_row Tryz.results76 _ _ _ 39 _ (0,0) _ rfl (HI2.out.rb.w7 _ _ _ _ _ _ _) Tryz.underlying39 rfl (by kernel_rfl)) rfl ⟨.inl ⟨HN.out,rfl⟩,KB HI2.out.bel (by omega) _ _ _ _ _ _ _⟩
end Go.Proofs.YtlejplpkomddeaaGreat
