import Derived.Test.YtlejplpkomddeaaGreatR5
import Derived.Laws.StructEq
import Derived.Test.YtlejplpkomddeaaGreatR0
import Derived.Test.YtlejplpkomddeaaGreatR4
namespace Go.Proofs.YtlejplpkomddeaaGreat
open Go.ChangeShapes Go.WideShapes Go.ChangeAt Go.RowKit
set_option linter.unusedVariables false
set_option maxHeartbeats 2000000
set_option maxRecDepth 100000
theorem GM{z:Int}(h:Ka z):0<=z/\z<=4294967295:=by simpa[Ka,Lit.wf,IntKind.min,IntKind.max,IntKind.signed,IntKind.bits]using h
theorem D9(a b a' b':Int)(w:World):(binOp .eql 128 (.agg #[.int .i64 a,.int .u32 b]) (.agg #[.int .i64 a',.int .u32 b'])).run Tryz.prog w=.ok (.bool (decide (a=a'/\b=b'))) w:=by
 have u64:=Tryz.underlying2;have a64:=Tryz.isAgg2;have z64:=Tryz.sizeOf2;have u32:=Tryz.underlying126;have a32:=Tryz.isAgg126;have z32:=Tryz.sizeOf126;have hS:Tryz.prog.underlying 128=some (.struct (Tryz.prog.fieldsOf 128)):=by kernel_rfl
 have hp:Tryz.prog.stoodInHeld 128=false:=by kernel_rfl
 rw[run_eql_struct,show(10000:Nat)=9999+1 from rfl,run_equalIn_agg w 9999 128 _ _ hS hp];simp only[Program.fieldsOf,Tryz.underlying128];go_simp;by_cases h1:a=a'
 ·by_cases h2:b=b'<;>simp[*]
 ·simp[*]
theorem GT(t x:Int)(w:World)(hx:0<=x):
 Calls Tryz.prog 133 #[.agg #[.int .i64 t,.int .u32 x]] w fun e w'=>Ar e (Cc ⟨t,x⟩)/\Below w.heap.size w w':=by
 by_cases h1:t=1
 ·subst h1
  have e0:∀w,(binOp .eql 128 (.agg #[.int .i64 1,.int .u32 x]) (.agg #[.int .i64 1,.int .u32 0])).run Tryz.prog w=.ok (.bool (decide (1=(1:Int)/\x=0))) w:=D9 1 x 1 0
  have e1:∀w,(binOp .eql 128 (.agg #[.int .i64 1,.int .u32 x]) (.agg #[.int .i64 1,.int .u32 1])).run Tryz.prog w=.ok (.bool (decide (1=(1:Int)/\x=1))) w:=D9 1 x 1 1
  by_cases h2:x=0
  ·have e2:decide (1=(1:Int)/\x=0)=true:=by simp[h2]
   have HY:Hid (Cc ⟨1,x⟩):=⟨rfl,fun _=>by simp only[];omega⟩;rw[e2]at e0;clear h2 e2 e1 hx;go_enter Tryz.func133,Tryz.ntmps133;go_wp2;go_ret;exact⟨.yes HY.out,Aa _ _⟩
  ·have e2:decide (1=(1:Int)/\x=0)=false:=by simp[h2]
   rw[e2]at e0;by_cases h3:x=1
   ·have e3:decide (1=(1:Int)/\x=1)=true:=by simp[h3]
    have HY:Hid (Cc ⟨1,x⟩):=⟨rfl,fun _=>by simp only[];omega⟩;rw[e3]at e1;clear h2 e2 h3 e3 hx;go_enter Tryz.func133,Tryz.ntmps133;go_wp2;go_ret;exact⟨.yes HY.out,Aa _ _⟩
   ·have e3:decide (1=(1:Int)/\x=1)=false:=by simp[h3]
    have HN:Hid (¬Cc ⟨1,x⟩):=fun e=>by have:=e.2 rfl;simp only[]at this;omega
    rw[e3]at e1;clear h2 e2 h3 e3 hx;go_enter Tryz.func133,Tryz.ntmps133;go_wp2
    go_ret
    exact⟨.no HN.out,Aa _ _⟩
 ·have h1':(t==1)=false:=by simpa using h1
  have HI:Hid (CE t=true↔Cc ⟨t,x⟩):=⟨fun e=>⟨e,fun e=>absurd e h1⟩,fun e=>e.1⟩;go_enter Tryz.func133,Tryz.ntmps133;go_wp2_with fail
  refine(Ca t _).mono ?_;rintro e u ⟨rfl,rfl⟩;go_wp2
  go_ret
  exact⟨.of HI.out,Aa _ _⟩
theorem JD(v v':Value)(f:MG)(w:World)(hs:f.small)(h:Of w v f)(h':Of w v' f):
 Calls Tryz.prog 102 #[.agg #[.int .i64 f.func,.int .i64 f.at_,.int .i64 f.base,v],.agg #[.int .i64 f.func,.int .i64 f.at_,.int .i64 f.base,v']] w fun e w'=>e=.returned (.bool true)/\Below w.heap.size w w':=by
 have F0:=Pj.of w 123 #[.int .i64 f.func,.int .i64 f.at_,.int .i64 f.base,v] #[.int .i64 f.func,.int .i64 f.at_,.int .i64 f.base,v'] rfl rfl;have H:=h3 h h' hs;clear h h' hs;go_enter Tryz.func102,Tryz.ntmps102;go_wp2_with fail
 refine(Ex v v' f.locals _ H.out.2.2 (H.out.1.keep F0.bel lR) (H.out.2.1.keep F0.bel lR)).mono ?_;rintro e u1 ⟨rfl,b1⟩;have F1:=F0.keep b1;clear b1 F0;go_wp2
 go_ret
 exact⟨rfl,F1.bel⟩
theorem Iu(s s':Value)(fs:List MG)(w:World)(hL:fs.length<=1048576)(hs:∀f∈fs,f.small)(h:LI w s fs)(h':LI w s' fs):
 Calls Tryz.prog 47 #[s,s'] w fun e w'=>e=.returned (.bool true)/\Below w.heap.size w w':=by
 obtain⟨xs,hxs,hrd,hel⟩:=h;obtain⟨xs',hxs',hrd',hel'⟩:=h';have hxl:xs.length=fs.length:=by rw[<-hxs];simp
 have hxl':xs'.length=fs.length:=by rw[<-hxs'];simp
 have H1:=h5 hrd hxs hel hs hxl;have H2:=h5 hrd' hxs' hel' hs hxl';obtain⟨a1,c1,rfl⟩:=hrd.is_slice;obtain⟨a2,c2,rfl⟩:=hrd'.is_slice;clear hrd hxs hel hs hxl hrd' hxs' hel' hxl';generalize hLL:fs.length=n at hL H1 H2;clear hLL;go_enter Tryz.func47,Tryz.ntmps47;go_wp2
 go_loopw [5] (fun i wr=>∃k:Nat,k<=n/\i=.int .i64 k/\Below w.heap.size w wr) (fun i _=>n-(intOf i).toNat)
 case atStart=>exact⟨0,by omega,rfl,Below.refl _ _⟩
 case round=>
  obtain⟨k,hk,rfl,hbel⟩:=hrel;have HB:Hid (Below w.heap.size w wr):=hbel;clear hbel;by_cases hlt:k<n
  ·obtain⟨⟨f,v⟩,hx⟩:∃x,xs[k]?=some x:=⟨_,gE (by rw[H1.out.2.2.2.2];exact hlt)⟩
   obtain⟨⟨f',v'⟩,hx'⟩:∃x,xs'[k]?=some x:=⟨_,gE (by rw[H2.out.2.2.2.2];exact hlt)⟩;have e1:=Bh H1.out.2.1 hx;have e2:=Bh H2.out.2.1 hx'
   have hff:f'=f:=by
    rw[e1]at e2;exact(Option.some.inj e2).symm
   subst hff;have HX:Hid (Of wr v f'/\Of wr v' f'/\f'.small):=⟨(H1.out.2.2.1 _ (mG hx)).keep HB.out lR,(H2.out.2.2.1 _ (mG hx')).keep HB.out lR,H1.out.2.2.2.1 _ (mG e1)⟩
   clear e1 e2;rcases H1.out.1.2 with⟨e0,_⟩|⟨g,o,c,e1,hc1⟩
   ·omega
   ·rcases H2.out.1.2 with⟨e0,_⟩|⟨g',o',c',e2,hc2⟩
    ·omega
    ·simp only[sJ,true_and]at e1 e2
     obtain⟨rfl,rfl⟩:=e1;obtain⟨rfl,rfl⟩:=e2;have i0:=Rd.elem Au hc1 k _ hx 0 _ rfl;have i1:=Rd.elem Au hc1 k _ hx 1 _ rfl;have i2:=Rd.elem Au hc1 k _ hx 2 _ rfl;have i3:=Rd.elem Au hc1 k _ hx 3 _ rfl;have j0:=Rd.elem Au hc2 k _ hx' 0 _ rfl;have j1:=Rd.elem Au hc2 k _ hx' 1 _ rfl;have j2:=Rd.elem Au hc2 k _ hx' 2 _ rfl;have j3:=Rd.elem Au hc2 k _ hx' 3 _ rfl;rw[<-HB.out.cell (bL i0),Nat.add_zero]at i0;rw[<-HB.out.cell (bL i1)]at i1;rw[<-HB.out.cell (bL i2)]at i2;rw[<-HB.out.cell (bL i3)]at i3;rw[<-HB.out.cell (bL j0),Nat.add_zero]at j0;rw[<-HB.out.cell (bL j1)]at j1;rw[<-HB.out.cell (bL j2)]at j2;rw[<-HB.out.cell (bL j3)]at j3;clear hc1 hc2 hx hx';simp only[]at i0 i1 i2 i3 j0 j1 j2 j3;go_wp2_with fail
     go_region_with (go_at_call 102;refine(JD v v' f' _ HX.out.2.2 (by exact HX.out.1) (by exact HX.out.2.1)).mono ?_;rintro e u ⟨rfl,hbu⟩)
     all_goals
      have HB2:Hid (Below w.heap.size w u):=HB.out.trans (As hbu HB.out.size);clear hbu HB i0 i1 i2 i3 j0 j1 j2 j3;go_wp2
      go_roundw
      case rel=>exact⟨k+1,by omega,by go_num,HB2.out⟩
      case measure=>simp[intOf];omega
  ·go_wp2
   go_ret
   exact⟨rfl,HB.out⟩
theorem BJ(t c s k:Int)(d:Bool)(a1 a2 a3:Option Addr)(n1 c1 n2 c2 n3 c3:Nat)(w:World):
 Calls Tryz.prog 31 #[.agg #[.int .i64 t,.bool d,.int .i64 c,.int .i64 s,.slice a1 n1 c1,.slice a2 n2 c2,.slice a3 n3 c3],.int .i64 k] w fun e w'=>e=.returned (.agg #[.int .i64 k,.bool d,.int .i64 c,.int .i64 s,.slice a1 n1 c1,.slice a2 n2 c2,.slice a3 n3 c3])/\Below w.heap.size w w':=by
 go_enter Tryz.func31,Tryz.ntmps31;go_wp2_with fail
 refine bodyPost_ret (v:=.agg #[.int .i64 k,.bool d,.int .i64 c,.int .i64 s,.slice a1 n1 c1,.slice a2 n2 c2,.slice a3 n3 c3]) (by simp[results,Tryz.results31,go_sem]) rfl ⟨rfl,?_⟩;exact Ab (Aa _ _) lR (Aa _ _)
theorem Ig(t c s:Int)(d:Bool)(a1 a2 a3:Option Addr)(n1 c1 n2 c2 n3 c3:Nat)(w:World):
 Calls Tryz.prog 41 #[.agg #[.int .i64 t,.bool d,.int .i64 c,.int .i64 s,.slice a1 n1 c1,.slice a2 n2 c2,.slice a3 n3 c3]] w fun e w'=>Ar e (t≠0\/d=true)/\Below w.heap.size w w':=by
 by_cases q:t=0
 ·subst q
  go_enter Tryz.func41,Tryz.ntmps41;go_wp2
  go_ret
  exact⟨.of (by simp),by first|exact Below.refl _ _|exact Aa _ _⟩
 ·have q':(t==0)=false:=by simpa using q
  have q2:(t != 0)=true:=by simp[q]
  go_enter Tryz.func41,Tryz.ntmps41;go_wp2
  go_ret
  exact⟨.of (by simp[q]),by first|exact Below.refl _ _|exact Aa _ _⟩
theorem Cr(b:Bool)(t:Int)(w:World):Calls Tryz.prog 170 #[.bool b,.int .i64 t] w fun e w'=>e=.returned (.int .i64 (if b=true then 0 else t))/\w'=w:=by
 cases b<;>
 ·go_enter Tryz.func170,Tryz.ntmps170
  go_wp2
  go_ret
  exact⟨rfl,rfl⟩
theorem GP(x:MC)(t:Int)(w:World):Calls Tryz.prog 171 #[.agg #[.int .i64 x.type,.int .u32 x.word],.int .i64 t] w fun e w'=>Ar e (t=0\/x.type=t)/\Below w.heap.size w w':=by
 by_cases q:t=0
 ·subst q
  go_enter Tryz.func171,Tryz.ntmps171;go_wp2
  go_ret
  exact⟨.of (by simp),by first|exact Below.refl _ _|exact Aa _ _⟩
 ·have q':(t==0)=false:=by simpa using q
  go_enter Tryz.func171,Tryz.ntmps171;go_wp2
  go_ret
  exact⟨.of (by simp[q]),by first|exact Below.refl _ _|exact Aa _ _⟩
def Bd(ws ts:List Int):Prop:=ws.length=ts.length/\∀j,j<ws.length->∀x,ws[j]?=some x->ts[j]?=some 1->x<=1
set_option maxHeartbeats 2000000 in
set_option maxRecDepth 100000 in
theorem DI (s t:Value)(ws ts:List Int)(w:World)(hn:ws.length<=1048576)(hm:ts.length<=1048576)(h:Rd w 1 s ws.length (ws.flatMap Bs))(h':Rd w 1 t ts.length (ts.flatMap Ae)):
    Calls Tryz.prog 175 #[s,t] w fun e w'=>Ar e (Bd ws ts)/\w'=w:=by
  have H1:Hid (Rd w 1 s ws.length (ws.flatMap Bs)):=h;have H2:Hid (Rd w 1 t ts.length (ts.flatMap Ae)):=h';obtain⟨a1,c1,rfl⟩:=h.is_slice;obtain⟨a2,c2,rfl⟩:=h'.is_slice;clear h h';generalize hLL:ws.length=n at hn H1;generalize hMM:ts.length=m at hm H2;have HL:Hid (ws.length=n):=hLL;have HM:Hid (ts.length=m):=hMM;clear hLL hMM;by_cases q0:n=m
  . subst q0
    go_enter Tryz.func175,Tryz.ntmps175;go_wp2
    go_loopw [5] (fun i wr=>∃k:Nat,k<=n/\i=.int .i64 k/\Hid (∀j,j<k->∀x,ws[j]?=some x->ts[j]?=some 1->x<=1)/\wr=w) (fun i _=>n-(intOf i).toNat)
    case atStart=>exact⟨0,by omega,rfl,fun j hj=>by omega,rfl⟩
    case round=>
      obtain⟨k,hk,rfl,HT,rfl⟩:=hrel;by_cases hlt:k<n
      . obtain⟨x,hx⟩:∃x,ws[k]?=some x:=⟨_,gE (by rw[HL.out];exact hlt)⟩
        obtain⟨t,ht⟩:∃t,ts[k]?=some t:=⟨_,gE (by rw[HM.out];exact hlt)⟩;rcases H1.out.2 with⟨e0,_⟩|⟨g,o,c,e1,hc1⟩
        . omega
        rcases H2.out.2 with⟨e0,_⟩|⟨g',o',c',e2,hc2⟩
        . omega
        simp only[sJ,true_and]at e1 e2;obtain⟨rfl,rfl⟩:=e1;obtain⟨rfl,rfl⟩:=e2;have i0:=Rd.elem Bx hc1 k x hx 0 _ rfl;have j0:=Rd.elem An hc2 k t ht 0 _ rfl;rw[Nat.mul_one,Nat.add_zero]at i0 j0;have HX:Hid (ws[k]?=some x/\ts[k]?=some t):=⟨hx,ht⟩
        clear hc1 hc2 hx ht
        have next:(t=1->x<=1)->∀j,j<k+1->∀x,ws[j]?=some x->ts[j]?=some 1->x<=1:=fun hh j hj y hy hz=>by
          by_cases e:j=k
          . subst e
            rw[HX.out.1]at hy;rw[HX.out.2]at hz;obtain rfl:=Option.some.inj hy;exact hh (Option.some.inj hz)
          . exact HT.out j (by omega) y hy hz
        have HN:Hid (t=1->¬x<=1->¬Bd ws ts):=fun h1 h2 e=>h2 (e.2 k (by rw[HL.out];exact hlt) x HX.out.1 (by rw[HX.out.2,h1]))
        by_cases q1:t=1
        . subst q1
          by_cases q2:1<x
          . clear next
            go_wp2
            go_ret
            exact⟨.no (HN.out (by trivial) (by omega)),rfl⟩
          . have NX:Hid _:=next (fun _=>by omega)
            clear next;go_wp2
            go_roundw
            case rel=>exact⟨k+1,by omega,by go_num,NX,by trivial⟩
            case measure=>simp[intOf];omega
        . have q1':(t==1)=false:=by simpa using q1
          have NX:Hid _:=next (fun e=>absurd e q1);clear next q1;go_wp2
          go_roundw
          case rel=>exact⟨k+1,by omega,by go_num,NX,by trivial⟩
          case measure=>simp[intOf];omega
      . have hkn:n=k:=by omega
        subst hkn;have HY:Hid (Bd ws ts):=⟨by rw[HL.out,HM.out],by rw[HL.out];exact HT.out⟩;go_wp2;go_ret;exact⟨.yes HY.out,rfl⟩
  . have HN:Hid (¬Bd ws ts):=fun e=>q0 (by have:=e.1;rw[HL.out,HM.out]at this;exact this)
    have q0':((n:Int)==(m:Int))=false:=by simp;omega
    clear H1 H2;go_enter Tryz.func175,Tryz.ntmps175;go_wp2
    go_ret
    exact⟨.no HN.out,rfl⟩
def EO(ws ts:List Int):Prop:=∀j,j<ws.length->∀x,ws[j]?=some x->∀t,ts[j]?=some t->Cc ⟨t,x⟩
set_option maxHeartbeats 2000000 in
set_option maxRecDepth 100000 in
theorem FV (t s:Value)(ws ts:List Int)(w:World)(hn:ws.length<=1048576)(hw:∀z∈ws,0<=z)(hm:ts.length=ws.length)(h:Rd w 1 s ws.length (ws.flatMap Bs))(h':Rd w 1 t ts.length (ts.flatMap Ae)):
    Calls Tryz.prog 177 #[t,s] w fun e w'=>Ar e (EO ws ts)/\Below w.heap.size w w':=by
  rw[hm]at h';have H1:Hid (Rd w 1 s ws.length (ws.flatMap Bs)):=h;have H2:Hid (Rd w 1 t ws.length (ts.flatMap Ae)):=h';have HZ:Hid (∀z∈ws,0<=z):=hw;clear hw;obtain⟨a1,c1,rfl⟩:=h.is_slice;obtain⟨a2,c2,rfl⟩:=h'.is_slice;clear h h';generalize hLL:ws.length=n at hn hm H1 H2;have HL:Hid (ws.length=n):=hLL;have HM:Hid (ts.length=n):=hm;clear hLL hm;go_enter Tryz.func177,Tryz.ntmps177;go_wp2
  go_loopw [9] (fun i wr=>∃k:Nat,k<=n/\i=.int .i64 k/\Hid (∀j,j<k->∀x,ws[j]?=some x->∀t,ts[j]?=some t->Cc ⟨t,x⟩)/\Hid (Below w.heap.size w wr)) (fun i _=>n-(intOf i).toNat)
  case atStart=>exact⟨0,by omega,rfl,fun j hj=>by omega,Below.refl _ _⟩
  case round=>
    obtain⟨k,hk,rfl,HT,HW⟩:=hrel;by_cases hlt:k<n
    . obtain⟨x,hx⟩:∃x,ws[k]?=some x:=⟨_,gE (by rw[HL.out];exact hlt)⟩
      obtain⟨t,ht⟩:∃t,ts[k]?=some t:=⟨_,gE (by rw[HM.out];exact hlt)⟩;rcases H1.out.2 with⟨e0,_⟩|⟨g,o,c,e1,hc1⟩
      . omega
      rcases H2.out.2 with⟨e0,_⟩|⟨g',o',c',e2,hc2⟩
      . omega
      simp only[sJ,true_and]at e1 e2;obtain⟨rfl,rfl⟩:=e1;obtain⟨rfl,rfl⟩:=e2;have i0:=Rd.elem Bx hc1 k x hx 0 _ rfl;have j0:=Rd.elem An hc2 k t ht 0 _ rfl;rw[Nat.mul_one,Nat.add_zero]at i0 j0;rw[<-HW.out.cell (bL i0)]at i0;rw[<-HW.out.cell (bL j0)]at j0;have HX:Hid (ws[k]?=some x/\ts[k]?=some t):=⟨hx,ht⟩
      clear hc1 hc2 hx ht;go_wp2_with fail
      refine(GT t x _ (HZ.out x (mG HX.out.1))).mono ?_;rintro e u ⟨⟨b1,rfl,hb1⟩,blu⟩;have HW3:Hid (Below w.heap.size w u):=Ab HW.out (Nat.le_refl _) blu;clear i0 j0 blu;cases b1
      . have HN:Hid (¬EO ws ts):=fun e=>absurd (hb1.2 (e k (by rw[HL.out];exact hlt) x HX.out.1 t HX.out.2)) Bool.false_ne_true
        clear hb1;go_wp2
        go_ret
        exact⟨.no HN.out,HW3.out⟩
      . have NX:Hid (∀j,j<k+1->∀x,ws[j]?=some x->∀t,ts[j]?=some t->Cc ⟨t,x⟩):=fun j hj y hy t' ht'=>by
          by_cases e:j=k
          . subst e
            rw[HX.out.1]at hy;rw[HX.out.2]at ht';obtain rfl:=Option.some.inj hy;obtain rfl:=Option.some.inj ht';exact hb1.1 rfl
          . exact HT.out j (by omega) y hy t' ht'
        clear hb1;go_wp2
        go_roundw
        case rel=>exact⟨k+1,by omega,by go_num,NX,HW3⟩
        case measure=>simp[intOf];omega
    . have hkn:n=k:=by omega
      subst hkn;have HY:Hid (EO ws ts):=by show EO ws ts;unfold EO;rw[HL.out];exact HT.out
      go_wp2
      go_ret
      exact⟨.yes HY.out,HW.out⟩
theorem FY(x0 x1 x2 x3:Value)(g:VF)(f:MF)(n:Nat)(z:Int)(w:World)(hs:f.small)(h:CP w g f)(hz:(f.params++f.locals)[n]?=some z):
 Calls Tryz.prog 200 #[.agg #[x0,x1,x2,x3,g.p,.int .i64 f.result,g.l,g.c],.int .i64 (n:Int)] w fun e w'=>e=.returned (.int .i64 z)/\Below w.heap.size w w':=by
 obtain⟨a1,c1,e1⟩:=h.1.is_slice;obtain⟨a2,c2,e2⟩:=h.2.1.is_slice;obtain⟨vp,vl,vc⟩:=g;obtain⟨s1,s2,s3⟩:=hs;simp only[]at e1 e2;subst e1 e2;have HB:Hid (Below w.heap.size w (w.alloc (.cells #[x0,x1,x2,x3,.slice a1 f.params.length c1,.int .i64 f.result,.slice a2 f.locals.length c2,vc] 164))):=Aa _ _;by_cases q:n<f.params.length
 ·rw[List.getElem?_append_left q]at hz
  have hq:(n:Int)<(f.params.length:Int):=by omega
  rcases h.1.2 with⟨e0,_⟩|⟨gr,gor,gcr,e1,hc2⟩
  ·omega
  simp only[sJ,true_and]at e1;obtain⟨rfl,rfl⟩:=e1;have l0:=Rd.elem An hc2 n z hz 0 _ rfl;rw[Nat.mul_one,Nat.add_zero]at l0;have l1:=(HB.out.cell (bL l0)).trans l0;have nb:¬gr=w.heap.size:=Nat.ne_of_lt (bL l0);clear h hz hc2;generalize f.params.length=N at*;generalize f.locals.length=M at*;go_enter Tryz.func200,Tryz.ntmps200;go_wp2
  go_ret
  exact⟨rfl,HB.out⟩
 ·rw[List.getElem?_append_right (by omega)]at hz
  have hlt:=(gI.1 hz).1;obtain⟨d,rfl⟩:∃d,n=f.params.length+d:=⟨n-f.params.length,by omega⟩;rw[Nat.add_sub_cancel_left]at hz;have hq:¬((f.params.length+d:Nat):Int)<(f.params.length:Int):=by omega
  rcases h.2.1.2 with⟨e0,_⟩|⟨gr,gor,gcr,e1,hc2⟩
  ·omega
  simp only[sJ,true_and]at e1;obtain⟨rfl,rfl⟩:=e1;have l0:=Rd.elem An hc2 d z hz 0 _ rfl;rw[Nat.mul_one,Nat.add_zero]at l0;have l1:=(HB.out.cell (bL l0)).trans l0;have nb:¬gr=w.heap.size:=Nat.ne_of_lt (bL l0);have hd:d<f.locals.length:=by omega
  clear h hz hc2 q hlt;generalize f.params.length=N at*;generalize f.locals.length=M at*;have hsub:((N+d:Nat):Int)-(N:Int)=(d:Int):=by omega
  go_enter Tryz.func200,Tryz.ntmps200;go_wp2
  go_ret
  exact⟨rfl,HB.out⟩
theorem H5(s:Value)(cs:List MC)(w:World)(hn:cs.length<=1048576)(hw:∀c∈cs,0<=c.word)(h:Rd w 2 s cs.length (cs.flatMap MC.cells)):
 Calls Tryz.prog 128 #[s] w fun e w'=>Ar e (AV cs)/\Below w.heap.size w w':=by
 have H1:=AS h;obtain⟨a1,c1,rfl⟩:=h.is_slice;clear h;have HZ:Hid (∀c∈cs,0<=c.word):=hw;clear hw;generalize hLL:cs.length=n at hn H1;have HL:Hid (cs.length=n):=hLL;clear hLL;by_cases q0:64<n
 ·have HN:Hid (¬AV cs):=fun e=>absurd e.1 (by rw[HL.out];omega)
  clear H1;go_enter Tryz.func128,Tryz.ntmps128;go_wp2
  go_ret
  exact⟨.no HN.out,Below.refl _ _⟩
 go_enter Tryz.func128,Tryz.ntmps128;go_wp2
 go_loopw [10] (fun i wr=>∃k:Nat,k<=n/\i=.int .i64 k/\Hid (∀j,j<k->∀c,cs[j]?=some c->Cc c)/\Hid (Below w.heap.size w wr)) (fun i _=>n-(intOf i).toNat)
 case atStart=>exact⟨0,by omega,rfl,fun j hj=>by omega,Below.refl _ _⟩
 case round=>
  obtain⟨k,hk,rfl,HT,HW⟩:=hrel;by_cases hlt:k<n
  ·obtain⟨x,hx⟩:∃x,cs[k]?=some x:=⟨_,gE (by rw[HL.out];exact hlt)⟩
   rcases H1.out.2 with⟨e0,_⟩|⟨b,o,c,e1,hc1⟩
   ·omega
   ·simp only[sJ,true_and]at e1
    obtain⟨rfl,rfl⟩:=e1;have i0:=Rd.elem MC.cells_length hc1 k x hx 0 _ rfl;have i1:=Rd.elem MC.cells_length hc1 k x hx 1 _ rfl;rw[<-HW.out.cell (bL i0),Nat.add_zero]at i0;rw[<-HW.out.cell (bL i1)]at i1;have HX:Hid (cs[k]?=some x):=hx;clear hc1 hx;have nb:¬b=wr.heap.size:=Nat.ne_of_lt (bL i0);have mb:b<wr.heap.size:=bL i0;have HW2:Hid (Below w.heap.size w (wr.alloc (.cells #[.int .i64 x.type,.int .u32 x.word] 143))):=Ab HW.out lR (Aa _ _);go_wp2_with fail
    refine(GT x.type x.word _ (HZ.out x (mG HX.out))).mono ?_;rintro e u ⟨⟨b1,rfl,hb1⟩,blu⟩;have HW3:Hid (Below w.heap.size w u):=Ab HW2.out lR blu;clear i0 i1 nb mb blu HW2;cases b1
    ·have HN:Hid (¬AV cs):=fun e=>absurd (hb1.2 (e.2 k (by rw[HL.out];exact hlt) x HX.out)) Bool.false_ne_true
     clear hb1;go_wp2
     go_ret
     exact⟨.no HN.out,HW3.out⟩
    ·have HC:Hid (Cc x):=hb1.1 rfl
     clear hb1;go_wp2
     go_roundw
     case rel=>exact⟨k+1,by omega,by go_num,Cz HX.out HC.out HT.out,HW3⟩
     case measure=>simp[intOf];omega
  ·have hkn:n=k:=by omega
   subst hkn;have HY:Hid (AV cs):=⟨by rw[HL.out];omega,by rw[HL.out];exact HT.out⟩;go_wp2;go_ret;exact⟨.yes HY.out,HW.out⟩
theorem IG(v:VF)(f:MF)(w:World)(hs:f.small)(h:CP w v f):
 Calls Tryz.prog 186 #[.agg #[v.p,.int .i64 f.result,v.l,v.c]] w fun e w'=>Ar e (BO f)/\Below w.heap.size w w':=by
 have H1:=h2 h hs;obtain⟨a1,c1,e1⟩:=h.1.is_slice;obtain⟨a2,c2,e2⟩:=h.2.1.is_slice;obtain⟨a3,c3,e3⟩:=h.2.2.is_slice;obtain⟨vp,vl,vc⟩:=v;obtain⟨s1,s2,s3⟩:=hs;simp only[]at e1 e2 e3;subst e1 e2 e3;clear h;have HB:Hid (Below w.heap.size w (w.alloc (.cells #[.slice a1 f.params.length c1,.int .i64 f.result,.slice a2 f.locals.length c2,.slice a3 f.code.length c3] 131))):=Aa _ _;by_cases q1:8<f.params.length
 ·have HN:Hid (¬BO f):=fun e=>absurd e.par (by omega)
  clear H1;generalize f.params.length=n1 at*;generalize f.locals.length=n2 at*;generalize f.code.length=n3 at*;go_enter Tryz.func186,Tryz.ntmps186;go_wp2
  go_ret
  exact⟨.no HN.out,HB.out⟩
 by_cases q2:32<f.params.length+f.locals.length
 ·have HN:Hid (¬BO f):=fun e=>absurd e.loc (by omega)
  clear H1;generalize f.params.length=n1 at*;generalize f.locals.length=n2 at*;generalize f.code.length=n3 at*;go_enter Tryz.func186,Tryz.ntmps186;go_wp2
  go_ret
  exact⟨.no HN.out,HB.out⟩
 by_cases q3:f.code.length=0
 ·have HN:Hid (¬BO f):=fun e=>e.code0 q3
  clear H1;generalize f.params.length=n1 at*;generalize f.locals.length=n2 at*;generalize f.code.length=n3 at*;subst q3;go_enter Tryz.func186,Tryz.ntmps186;go_wp2
  go_ret
  exact⟨.no HN.out,HB.out⟩
 by_cases q4:1024<f.code.length
 ·have HN:Hid (¬BO f):=fun e=>absurd e.code1 (by omega)
  clear H1;generalize f.params.length=n1 at*;generalize f.locals.length=n2 at*;generalize f.code.length=n3 at*;go_enter Tryz.func186,Tryz.ntmps186;go_wp2
  go_ret
  exact⟨.no HN.out,HB.out⟩
 have q1':¬(8:Int)<(f.params.length:Int):=by omega
 have q2':¬(32:Int)<(f.params.length:Int)+(f.locals.length:Int):=by omega
 have q3':((f.code.length:Int)==0)=false:=by simpa using q3
 have q4':¬(1024:Int)<(f.code.length:Int):=by omega
 have HQ:Hid (f.params.length<=8/\f.params.length+f.locals.length<=32/\¬f.code.length=0/\f.code.length<=1024):=⟨by omega,by omega,q3,by omega⟩
 go_enter Tryz.func186,Tryz.ntmps186;go_wp2_with fail
 refine(Fb _ f.params _ H1.out.2.1 (H1.out.1.1.keep HB.out lR)).mono ?_;rintro e u ⟨rfl,rfl⟩;cases t1:f.params.all CE
 ·have HN:Hid (¬BO f):=fun e=>by have:=e.pt;simp[t1]at this
  clear t1;go_wp2
  go_ret
  exact⟨.no HN.out,HB.out⟩
 have HT1:Hid (f.params.all CE=true):=t1;clear t1;go_wp2_with fail
 refine(Fb _ f.locals _ H1.out.2.2.1 (H1.out.1.2.1.keep HB.out lR)).mono ?_;rintro e u ⟨rfl,rfl⟩;cases t1:f.locals.all CE
 ·have HN:Hid (¬BO f):=fun e=>by have:=e.lt;simp[t1]at this
  clear t1;go_wp2
  go_ret
  exact⟨.no HN.out,HB.out⟩
 have HT2:Hid (f.locals.all CE=true):=t1;clear t1;generalize hR:f.result=R at*;have HE:Hid (f.result=R):=hR;clear hR q1 q2 q3 q4;by_cases q5:R=0
 ·subst q5
  have HY:Hid (BO f):=⟨HQ.out.1,HQ.out.2.1,HT1.out,HT2.out,.inl HE.out,HQ.out.2.2.1,HQ.out.2.2.2⟩;go_wp2
  go_ret
  exact⟨.yes HY.out,HB.out⟩
 ·have q5':(R==0)=false:=by simpa using q5
  go_wp2_with fail
  refine(Ca R _).mono ?_;rintro e u ⟨rfl,rfl⟩;cases t1:CE R
  ·have HN:Hid (¬BO f):=fun e=>by have:=e.res;rw[HE.out]at this;simp[q5,t1]at this
   clear t1;go_wp2
   go_ret
   exact⟨.no HN.out,HB.out⟩
  ·have HY:Hid (BO f):=⟨HQ.out.1,HQ.out.2.1,HT1.out,HT2.out,.inr (by rw[HE.out];exact t1),HQ.out.2.2.1,HQ.out.2.2.2⟩
   clear t1;go_wp2
   go_ret
   exact⟨.yes HY.out,HB.out⟩
end Go.Proofs.YtlejplpkomddeaaGreat
