import Derived.Test.YtdipfjmlfbdkdaaGreatFc22
namespace Go.Proofs.YtdipfjmlfbdkdaaGreat
open Go.ChangeShapes Go.WideShapes Go.ChangeAt Go.RowKit
set_option linter.unusedVariables false
set_option maxHeartbeats 2000000
set_option maxRecDepth 100000
def Gx(p:MP)(x:MI):Int:=match p.regions[x.a.toNat]? with|some r=>(r[x.b.toNat]?).getD 0|none=>0
def NH(f:MF):List Int:=if f.result=0 then[]else[f.result]
def M8(p:MP)(f:MF)(x:MI):List Int:=
 if x.op=3 then[AN f x.a]else if x.op=5 then[Gx p x]else if x.op=6 then[3]else if x.op=7 then[3,Gx p x]
 else if(8<=x.op/\x.op<=15)\/x.op=20\/x.op=21 then[x.a,x.a]else if x.op=16\/x.op=22 then[x.a]
 else if x.op=17\/x.op=18 then[3,3]else if x.op=19 then[2]else if x.op=23\/x.op=24 then[0]else if x.op=26 then[1]
 else if x.op=28 then(match p.funcs[x.a.toNat]? with|some g=>g.params|none=>[])else[]
def vAt(l:List MC)(i:Nat):MC:=(l[i]?).getD ⟨0,0⟩
def QM(p:MP)(f:MF)(x:MI):List Int:=
 if x.op=1 then[(vAt p.consts x.a.toNat).type]else if x.op=2 then[AN f x.a]else if x.op=4\/x.op=6 then[Gx p x]
 else if 8<=x.op/\x.op<=16 then[x.a]else if x.op=17\/x.op=18 then[3]else if x.op=19 then[2]else if x.op=20\/x.op=21 then[1]
 else if x.op=22 then[x.b]else if x.op=23 then[0,0]else if x.op=28 then(match p.funcs[x.a.toNat]? with|some g=>NH g|none=>[])else[]
theorem Ay(n:Int)(c:Int)(w:World):
 Calls Tryz.prog 55 #[.int .i64 n,.int .i64 c] w fun e w'=>e=.returned (.bool (decide (0<=n/\n<c)))/\w'=w:=by
 by_cases q0:n<0
 . rw[bI (by omega:¬(0<=n/\n<c))]
   have q0':¬0<=n:=by omega
   go_enter Tryz.func55,Tryz.ntmps55;go_wp2
   go_ret
   exact⟨rfl,rfl⟩
 have q0':0<=n:=by omega
 by_cases q1:n<c
 . rw[decide_eq_true (by omega:0<=n/\n<c)]
   go_enter Tryz.func55,Tryz.ntmps55;go_wp2
   go_ret
   exact⟨rfl,rfl⟩
 . rw[bI (by omega:¬(0<=n/\n<c))]
   go_enter Tryz.func55,Tryz.ntmps55;go_wp2
   go_ret
   exact⟨rfl,rfl⟩
theorem DV(F t:Int)(w:World)(hF:F=5\/F=6\/F=7):Calls Tryz.prog 141 #[.int .i64 F,.int .i64 t] w fun e w'=>Aj e (AE F t)/\w'=w:=by
 rcases hF with rfl|rfl|rfl
 . go_enter Tryz.func141,Tryz.ntmps141
   go_wp2
   all_goals(go_ret;refine⟨Aj.of ?_,rfl⟩;go_light;simp_all [AE])
 . go_enter Tryz.func141,Tryz.ntmps141
   go_wp2
   all_goals(go_ret;refine⟨Aj.of ?_,rfl⟩;go_light;simp_all [AE])
 . go_enter Tryz.func141,Tryz.ntmps141
   go_wp2_with fail
   refine(CM t _).mono ?_;rintro e u ⟨rfl,rfl⟩;go_wp2
   all_goals(go_ret;refine⟨Aj.of ?_,rfl⟩;go_light;simp_all [AE])
structure Jw(w:World)(b:Nat)(x0 x1 x2 x3 x4 x5 x6 x7:Value):Prop where
 c0:w.cell? ⟨b,0,none⟩=some x0
 c1:w.cell? ⟨b,1,none⟩=some x1
 c2:w.cell? ⟨b,2,none⟩=some x2
 c3:w.cell? ⟨b,3,none⟩=some x3
 c4:w.cell? ⟨b,4,none⟩=some x4
 c5:w.cell? ⟨b,5,none⟩=some x5
 c6:w.cell? ⟨b,6,none⟩=some x6
 c7:w.cell? ⟨b,7,none⟩=some x7
theorem Jw.lt{w:World}{b:Nat}{x0 x1 x2 x3 x4 x5 x6 x7:Value}(h:Jw w b x0 x1 x2 x3 x4 x5 x6 x7):b<w.heap.size:=aC h.c0
theorem Jw.keep{w w':World}{b:Nat}{x0 x1 x2 x3 x4 x5 x6 x7:Value}(h:Jw w b x0 x1 x2 x3 x4 x5 x6 x7)(hb:Below w.heap.size w w'):Jw w' b x0 x1 x2 x3 x4 x5 x6 x7:=
 ⟨by rw[hb.cell h.lt];exact h.c0,by rw[hb.cell h.lt];exact h.c1,by rw[hb.cell h.lt];exact h.c2,by rw[hb.cell h.lt];exact h.c3,by rw[hb.cell h.lt];exact h.c4,by rw[hb.cell h.lt];exact h.c5,by rw[hb.cell h.lt];exact h.c6,by rw[hb.cell h.lt];exact h.c7⟩
theorem Jw.new(w:World)(x0 x1 x2 x3 x4 x5 x6 x7:Value)(ty:TypeId):Jw (w.alloc (.cells #[x0,x1,x2,x3,x4,x5,x6,x7] ty)) w.heap.size x0 x1 x2 x3 x4 x5 x6 x7:=by
 have h:=cX (base:=w.heap.size) (e:=ty) (size:=8) w #[x0,x1,x2,x3,x4,x5,x6,x7] 1 lR (by unfold maxLen;omega) (by simp);exact⟨h.cellAt 0 (by omega),h.cellAt 1 (by omega),h.cellAt 2 (by omega),h.cellAt 3 (by omega),h.cellAt 4 (by omega),h.cellAt 5 (by omega),h.cellAt 6 (by omega),h.cellAt 7 (by omega)⟩
theorem Jw.alloc{w:World}{b:Nat}{x0 x1 x2 x3 x4 x5 x6 x7:Value}(h:Jw w b x0 x1 x2 x3 x4 x5 x6 x7)(o:Obj):Jw (w.alloc o) b x0 x1 x2 x3 x4 x5 x6 x7:=h.keep (Aa _ _)
def FP(f:MF)(n:Int):Prop:=0<=n/\n<(f.params.length:Int)+(f.locals.length:Int)
theorem Ep(x0 x1 x2 x3:Value)(g:VF)(f:MF)(n:Int)(w:World)(hs:f.small)(h:C9 w g f):
 Calls Tryz.prog 138 #[.agg #[x0,x1,x2,x3,g.p,.int .i64 f.result,g.l,g.c],.int .i64 n] w fun e w'=>Aj e (FP f n)/\Below w.heap.size w w':=by
 obtain⟨a1,c1,e1⟩:=h.1.is_slice;obtain⟨a2,c2,e2⟩:=h.2.1.is_slice;obtain⟨vp,vl,vc⟩:=g;obtain⟨s1,s2,s3⟩:=hs;simp only[]at e1 e2;subst e1 e2;clear h;go_enter Tryz.func138,Tryz.ntmps138;go_wp2_with fail
 refine(Ay n ((f.params.length:Int)+(f.locals.length:Int)) _).mono ?_;rintro e u ⟨rfl,rfl⟩;go_wp2
 go_ret
 exact⟨.of (by unfold FP;simp),Aa _ _⟩
def BL(p:MP)(op a b:Int):Prop:=∃l,0<=a/\p.regions[a.toNat]?=some l/\0<=b/\b<(l.length:Int)/\¬((op=5\/op=7)/\a=0)
theorem CS(v:VP)(p:MP)(x4 x5 x6 x7:Value)(op a b c:Int)(w:World)(hs:p.small)(h3:p.regions.length=3)(h:Dg w v p):
 Calls Tryz.prog 139 #[.agg #[v.r,v.k,v.f,v.t,x4,x5,x6,x7],.agg #[.int .i64 op,.int .i64 a,.int .i64 b,.int .i64 c]] w fun e w'=>Aj e (BL p op a b)/\Below w.heap.size w w':=by
 obtain⟨vr,vk,vf,vt⟩:=v;obtain⟨xs,hxs,hrd,hel⟩:=h.regions;simp only[]at hrd;rw[h3]at hrd;have hxl:xs.length=3:=by rw[<-h3,<-hxs];simp
 have H1:Hid (Rd w 1 vr 3 (xs.flatMap Bl)/\xs.map Prod.fst=p.regions/\(∀x∈xs,Rd w 1 x.2 x.1.length (x.1.flatMap Ac))/\(∀l∈p.regions,l.length<=1048576)/\xs.length=3/\p.regions.length=3):=⟨hrd,hxs,hel,hs.region,hxl,h3⟩
 clear hrd hxs hel hxl hs h h3;have HB:Hid (Below w.heap.size w ((w.alloc (.cells #[vr,vk,vf,vt,x4,x5,x6,x7] 83)).alloc (.cells #[.int .i64 op,.int .i64 a,.int .i64 b,.int .i64 c] 60))):=Ab (Aa _ _) lR (Aa _ _);by_cases q0:0<=a/\a<3
 . obtain ⟨i,rfl⟩:=aT q0.1
   have hi:i<3:=by omega
   obtain⟨⟨l,y⟩,hx⟩:∃x,xs[i]?=some x:=⟨_,aA (by rw[H1.o.2.2.2.2.1];omega)⟩;have e1:=BM H1.o.2.1 hx;have hy:=H1.o.2.2.1 _ (aE hx);have hll:=H1.o.2.2.2.1 _ (aE e1);simp only[]at e1 hy hll;rcases H1.o.1.2 with⟨e0,_⟩|⟨g,o,cc,e2,hc1⟩
   . omega
   subst e2;have a0:=Rd.elem AW hc1 i _ hx 0 _ rfl;rw[bf,aS]at a0;simp only[]at a0;clear hc1 hx;have HX:Hid (p.regions[i]?=some l):=e1;clear e1;obtain⟨ay,cy,rfl⟩:=hy.is_slice;clear hy;have a1:=(HB.o.cell (aC a0)).trans a0;have ga:¬g=w.heap.size:=bJ (aC a0)
   have HC:Hid (BL p op (i:Int) b↔¬((op=5\/op=7)/\(i:Int)=0)/\0<=b/\b<(l.length:Int)):=by
    show _↔_;constructor
    . rintro⟨l',h1,h2,h3,h4,h5⟩
      rw[aG,HX.o]at h2;obtain rfl:=ae h2;exact⟨h5,h3,h4⟩
    . rintro⟨h5,h3,h4⟩
      exact⟨l,by omega,by rw[aG];exact HX.o,h3,h4,h5⟩
   by_cases q1:(op=5\/op=7)/\(i:Int)=0
   . have HN:Hid (¬BL p op (i:Int) b):=fun e=>(HC.o.1 e).1 q1
     obtain⟨q1,q2⟩:=q1;obtain rfl:i=0:=by omega
     rcases q1 with rfl|rfl
     . go_enter Tryz.func139,Tryz.ntmps139
       go_wp2_with fail
       refine(Ay 0 3 _).mono ?_;rintro e u ⟨rfl,rfl⟩;go_wp2
       go_ret
       exact⟨.no HN.o,HB.o⟩
     . go_enter Tryz.func139,Tryz.ntmps139
       go_wp2_with fail
       refine(Ay 0 3 _).mono ?_;rintro e u ⟨rfl,rfl⟩;go_wp2
       go_ret
       exact⟨.no HN.o,HB.o⟩
   . have hiz:((i:Int)==0)=decide (i=0):=by
      by_cases e:i=0
      . subst e
        rfl
      . rw[bI e]
        simpa using e
     have hit:decide (0<=(i:Int)/\(i:Int)<3)=true:=decide_eq_true (by omega)
     have HD:Hid (decide (0<=b/\b<(l.length:Int))=true↔BL p op (i:Int) b):=by
      show _↔_;rw[HC.o,cG];exact⟨fun e=>⟨q1,e⟩,fun e=>e.2⟩
     by_cases w5:op=5
     . subst w5
       have hi0:((i:Int)==0)=false:=by
        have:¬i=0:=fun e=>q1 ⟨.inl rfl,by omega⟩
        rw[hiz,bI this]
       clear q1 HC hiz;go_enter Tryz.func139,Tryz.ntmps139;go_wp2_with fail
       refine(Ay (i:Int) 3 _).mono ?_;rintro e u ⟨rfl,rfl⟩;rw[hit];go_wp2_with fail
       go_quiet ((go_at_call 55;exact Calls.quiet_of_same (Ay b (l.length:Int) _)))
       go_wp2
       go_ret
       exact⟨.of HD.o,HB.o.trans (Af _ _ _)⟩
     . by_cases w7:op=7
       . subst w7
         have hi0:((i:Int)==0)=false:=by
          have:¬i=0:=fun e=>q1 ⟨.inr rfl,by omega⟩
          rw[hiz,bI this]
         clear q1 HC hiz w5;go_enter Tryz.func139,Tryz.ntmps139;go_wp2_with fail
         refine(Ay (i:Int) 3 _).mono ?_;rintro e u ⟨rfl,rfl⟩;rw[hit];go_wp2_with fail
         go_quiet ((go_at_call 55;exact Calls.quiet_of_same (Ay b (l.length:Int) _)))
         go_wp2
         go_ret
         exact⟨.of HD.o,HB.o.trans (Af _ _ _)⟩
       . have w5':(op==5)=false:=by simpa using w5
         have w7':(op==7)=false:=by simpa using w7
         clear q1 HC hiz w5 w7;go_enter Tryz.func139,Tryz.ntmps139;go_wp2_with fail
         refine(Ay (i:Int) 3 _).mono ?_;rintro e u ⟨rfl,rfl⟩;rw[hit];go_wp2_with fail
         go_quiet ((go_at_call 55;exact Calls.quiet_of_same (Ay b (l.length:Int) _)))
         go_wp2
         go_ret
         exact⟨.of HD.o,HB.o.trans (Af _ _ _)⟩
 . have HN:Hid (¬BL p op a b):=fun⟨l,h1,h2,_⟩=>q0 ⟨h1,by have:=(aD.1 h2).1;rw[H1.o.2.2.2.2.2]at this;omega⟩
   have hit:decide (0<=a/\a<3)=false:=bI q0
   clear H1;by_cases w5:op=5
   . subst w5
     go_enter Tryz.func139,Tryz.ntmps139;go_wp2_with fail
     refine(Ay a 3 _).mono ?_;rintro e u ⟨rfl,rfl⟩;rw[hit];go_wp2
     go_ret
     exact⟨.no HN.o,HB.o⟩
   . have w5':(op==5)=false:=by simpa using w5
     go_enter Tryz.func139,Tryz.ntmps139;go_wp2_with fail
     refine(Ay a 3 _).mono ?_;rintro e u ⟨rfl,rfl⟩;rw[hit];go_wp2
     go_ret
     exact⟨.no HN.o,HB.o⟩
def Qp:List Int->List Int->Bool
 |[],[]=>true
 |s::ss,t::ts=>(t==0||s==t)&&Qp ss ts
 |_,_=>false
def QR(p:MP)(f:MF)(x:MI)(sh:List Int):Nat:=sh.length-(M8 p f x).length
def QV(p:MP)(f:MF)(x:MI)(sh:List Int):List Int:=sh.take (QR p f x sh)++(QM p f x).map fun t=>if t=0 then(sh[QR p f x sh]?).getD 0 else t
def Rk(p:MP)(f:MF)(x:MI)(sh:List Int):Int:=
 if sh.length<(M8 p f x).length then 1
 else if Qp (sh.drop (QR p f x sh)) (M8 p f x)=false\/(x.op=27/\AN f x.a≠3)then 2
 else if 64<(QV p f x sh).length then 3 else 0
def Rl(op:Int):Prop:=op=25\/op=26\/op=27
structure QC(p:MP)(f:MF)(shs:List (List Int))(i:Nat)(x:MI)(sh:List Int):Prop where
 types:sh.all Db=true
 high:sh.length<=64
 ret:x.op=29->sh=NH f
 code:x.op≠29->Rk p f x sh=0
 next:x.op≠29->x.op≠25->shs[i+1]?=some (QV p f x sh)
 named:Rl x.op->shs[x.c.toNat]?=some (QV p f x sh)
structure RC(p:MP)(f:MF)(shs:List (List Int)):Prop where
 len:shs.length=f.code.length
 first:shs[0]?=some []
 all:∀(i:Nat) x sh,f.code[i]?=some x->shs[i]?=some sh->QC p f shs i x sh
structure DP(xs:List Int)(c:Int):Prop where
 low:0<=c
 high:c<(xs.length:Int)
 mask:bits .and .i64 c (c+1)=0
 one:∀j:Nat,(j:Int)<=c->xs[j]?=xs[0]?
theorem Fw (a1:Option Addr)(c1:Nat)(xs:List Int)(c:Int)(w:World)(hn:xs.length<=1048576)(hcap:xs.length<=c1)(h:Rd w 1 (.slice a1 xs.length c1) xs.length (xs.flatMap Ac)):
 Calls Tryz.prog 140 #[.slice a1 xs.length c1,.int .i64 c] w fun e w'=>Aj e (DP xs c)/\Below w.heap.size w w':=by
 have H1:Hid (Rd w 1 (.slice a1 xs.length c1) xs.length (xs.flatMap Ac)):=h;clear h;generalize hLL:xs.length=n at hn hcap H1;have HL:Hid (xs.length=n):=hLL;clear hLL;by_cases q0:0<=c/\c<(n:Int)
 . have hit:decide (0<=c/\c<(n:Int))=true:=decide_eq_true q0
   obtain⟨c,rfl⟩:=aT q0.1;have hcn:c<n:=by omega
   clear q0;by_cases q1:bits .and .i64 (c:Int) ((c:Int)+1)=0
   . have HM:Hid (bits .and .i64 (c:Int) ((c:Int)+1)=0):=q1
     obtain⟨y,hy⟩:∃y,xs[0]?=some y:=⟨_,aA (by rw[HL.o];omega)⟩;rcases H1.o.2 with⟨e0,_⟩|⟨g,o,cc,e1,hc1⟩
     . omega
     simp only[aF,aw]at e1;obtain⟨rfl,rfl⟩:=e1;have j0:=Rd.elem Ap hc1 0 y hy 0 _ rfl;simp only[Nat.zero_mul,aS]at j0;have HC:Hid (∀j u,(xs.flatMap Ac)[j]?=some u->w.cell? ⟨g,o+j,none⟩=some u):=hc1;have HY:Hid (xs[0]?=some y):=hy;clear hc1 hy;go_enter Tryz.func140,Tryz.ntmps140;go_wp2_with fail
     refine(Ay (c:Int) (n:Int) _).mono ?_;rintro e u ⟨rfl,rfl⟩;rw[hit];have k1:(c:Int)+1<=(c1:Int):=by omega
     have k2:(0:Int)<=(c:Int)+1:=by omega
     have k3:(0:Int)<(n:Int):=by omega
     have k4:((c:Int)+1).toNat=c+1:=by omega
     go_wp2
     clear k1 k2 hit q1;go_loopw [24] (fun i wr=>∃k:Nat,k<=c+1/\i=.int .i64 k/\Hid (∀j,j<k->xs[j]?=some y)/\∃m,wr=u.drewN m) (fun i _=>c+1-(intOf i).toNat)
     case atStart=>exact⟨0,by omega,rfl,fun j hj=>by omega,0,rfl⟩
     case round=>
      obtain⟨k,hk,rfl,HT,m,rfl⟩:=hrel;by_cases hlt:k<c+1
      . obtain⟨x,hx⟩:∃x,xs[k]?=some x:=⟨_,aA (by rw[HL.o];omega)⟩
        have i0:=Rd.elem Ap HC.o k x hx 0 _ rfl;rw[bf,aS]at i0;have HX:Hid (xs[k]?=some x):=hx;clear hx;have hlt':(k:Int)<(c:Int)+1:=by omega
        by_cases hxy:x=y
        . subst hxy
          have HT2:Hid (∀j,j<k+1->xs[j]?=some x):=fun j hj=>by
           by_cases e:j=k
           . rw[e];exact HX.o
           . exact HT.o j (by omega)
          go_wp2
          go_roundw
          case rel=>exact⟨k+1,by omega,by go_num,HT2,_,rfl⟩
          case measure=>simp[intOf];omega
        . have HN:Hid (¬DP xs c):=fun e=>by
           have:=e.one k (by omega);rw[HX.o,HY.o]at this;exact hxy (ae this)
          have hxy':(x==y)=false:=by simpa using hxy
          have hxy'':(x != y)=true:=by simpa using hxy
          go_wp2
          go_ret
          exact⟨.no HN.o,Af _ _ _⟩
      . have hkn:k=c+1:=by omega
        subst hkn;have HY2:Hid (DP xs c):=⟨by omega,by rw[HL.o];omega,HM.o,fun j hj=>by rw[HY.o];exact HT.o j (by omega)⟩;go_wp2;go_ret;exact⟨.yes HY2.o,Af _ _ _⟩
   . have HN:Hid (¬DP xs c):=fun e=>q1 e.mask
     have q1':(bits .and .i64 (c:Int) ((c:Int)+1)==0)=false:=by simpa using q1
     clear H1;go_enter Tryz.func140,Tryz.ntmps140;go_wp2_with fail
     refine(Ay (c:Int) (n:Int) _).mono ?_;rintro e u ⟨rfl,rfl⟩;rw[hit];go_wp2
     go_ret
     exact⟨.no HN.o,aX _ _⟩
 . have HN:Hid (¬DP xs c):=fun e=>q0 ⟨e.low,by have:=e.high;rw[HL.o]at this;exact this⟩
   have hit:decide (0<=c/\c<(n:Int))=false:=bI q0
   clear H1;go_enter Tryz.func140,Tryz.ntmps140;go_wp2_with fail
   refine(Ay c (n:Int) _).mono ?_;rintro e u ⟨rfl,rfl⟩;rw[hit];go_wp2
   go_ret
   exact⟨.no HN.o,aX _ _⟩
theorem My{t:Int}(h:Db t=true):¬t=0:=by
 unfold Db at h;simp at h;omega
theorem Mi{xs:List Int}(h:xs.all Db=true){k:Nat}{x:Int}(hk:xs[k]?=some x):Db x=true:=eU.1 h x (aE hk)
theorem Ga{f:MF}(hf:B6 f)(n:Int):FP f n↔¬AN f n=0:=by
 constructor
 . rintro⟨h0,h1⟩
   obtain⟨k,rfl⟩:=aT h0;by_cases q:k<f.params.length
   . rw[G5 (aA q)]
     exact My (Mi hf.pt (aA q))
   . have q2:k-f.params.length<f.locals.length:=by omega
     have e:=GZ (f:=f) (aA q2);have ej:((f.params.length:Int)+((k-f.params.length:Nat):Int))=(k:Int):=by omega
     rw[ej]at e;rw[e];exact My (Mi hf.lt (aA q2))
 . intro h
   by_cases q0:n<0
   . exact absurd (ES q0) h
   by_cases q1:(f.params.length:Int)+f.locals.length<=n
   . exact absurd (G4 q1) h
   . exact⟨by omega,by omega⟩
theorem DH{p:MP}{a b:Nat}{l:List Int}(h3:p.regions.length=3)(hl:p.regions[a]?=some l):A3 p a b=l.getD b 0:=Gw (by have:=(aD.1 hl).1;omega) hl
theorem Hy{p:MP}(hp:Aq p.regions)(a b:Int):¬A3 p a b=0↔∃l,0<=a/\p.regions[a.toNat]?=some l/\0<=b/\b<(l.length:Int):=by
 constructor
 . intro h
   have hq:¬(a<0\/2<a\/b<0):=fun e=>h (Dv e)
   obtain⟨i,rfl⟩:=aT (show 0<=a by omega);obtain⟨j,rfl⟩:=aT (show 0<=b by omega);have hi:i<p.regions.length:=by have:=hp.1;omega
   rw[DH hp.1 (aA hi)]at h;refine⟨p.regions[i],by omega,by rw[aG];exact aA hi,by omega,?_⟩;by_cases hj:j<p.regions[i].length
   . omega
   . exact absurd (by rw[aJ,aZ (by omega)];rfl) h
 . rintro⟨l,h0,hl,h1,h2⟩
   obtain⟨i,rfl⟩:=aT h0;obtain⟨j,rfl⟩:=aT h1;rw[aG]at hl;rw[DH hp.1 hl];have hj:j<l.length:=by omega
   have e:l.getD j 0=l[j]:=by rw[aJ,aA hj];rfl
   rw[e];have hr:=hp.2 i (aD.1 hl).1 l hl;exact My (Mi hr.2 (aA hj))
theorem Fu{p:MP}(hp:Aq p.regions)(op a b:Int)(ho:op=4\/op=5\/op=6\/op=7):BL p op a b↔¬A3 p a b=0/\((op=4\/op=6)\/¬a=0):=by
 rw[Hy hp];constructor
 . rintro⟨l,h1,h2,h3,h4,h5⟩
   refine⟨⟨l,h1,h2,h3,h4⟩,?_⟩;by_cases q:a=0
   . left
     by_cases q5:op=5\/op=7
     . exact absurd ⟨q5,q⟩ h5
     . omega
   . exact .inr q
 . rintro⟨⟨l,h1,h2,h3,h4⟩,h5⟩
   exact⟨l,h1,h2,h3,h4,fun⟨e1,e2⟩=>by omega⟩
theorem MS{p:MP}(hp:Aq p.regions){a b:Nat}{l:List Int}(hl:p.regions[a]?=some l)(hb:b<l.length)(c:Int):DP (l.drop b) c↔CL p a b c:=by
 have hr:=hp.2 a (aD.1 hl).1 l hl
 have cell:∀j:Nat,A3 p (a:Int) ((b:Int)+(j:Int))=l.getD (b+j) 0:=fun j=>by
  have:=DH (b:=b+j) hp.1 hl;rw[Int.natCast_add]at this;exact this
 have cell0:A3 p (a:Int) (b:Int)=l.getD b 0:=DH hp.1 hl;have dr:∀j:Nat,(l.drop b)[j]?=l[b+j]?:=fun j=>by rw[eP]
 constructor
 . intro h
   have hh:=h.high;rw[dA]at hh;have h0:=h.low;have hlen:=hr.1;refine⟨h.low,by omega,h.mask,?_,fun j hj=> ?_⟩
   . rw[Hy hp]
     exact⟨l,by omega,by rw[aG];exact hl,by omega,by omega⟩
   . have:=h.one j hj
     rw[dr,dr]at this;rw[cell,cell0,aJ,aJ,this];rfl
 . intro h
   have key:∀j:Nat,(j:Int)<=c->b+j<l.length:=fun j hj=>by
    have e:=h.one j hj;have hne:=h.there;rw[<-e,cell]at hne;by_cases q:b+j<l.length
    . exact q
    . exact absurd (by rw[aJ,aZ (by omega)];rfl) hne
   obtain⟨k,rfl⟩:=aT h.low;have hk:=key k (by omega);refine⟨h.low,by rw[dA];omega,h.mask,fun j hj=> ?_⟩;have hj':=key j hj;have e:=h.one j hj;rw[cell,cell0,aJ,aJ,aA hj',aA hb]at e;rw[dr,dr,aS,aA hj',aA hb];simpa using e
end Go.Proofs.YtdipfjmlfbdkdaaGreat
