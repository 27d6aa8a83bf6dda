import Derived.Test.YtdipfjmlfbdkdaaGreatFc2
import Derived.Lib.SmallJoins
import Derived.Deep.Slices
import Derived.Deep.Cut
import Derived.Deep.CutRange
namespace Go.Proofs.YtdipfjmlfbdkdaaGreat
open Go.ChangeShapes Go.WideShapes Go.ChangeAt Go.RowKit
set_option linter.unusedVariables false
set_option maxHeartbeats 2000000
set_option maxRecDepth 100000
def G7(left n:Int):Int:=if left-n<0 then -1 else left-n
theorem Bm(a:Option Addr)(n c:Nat)(left:Int)(w:World)(hn:n<=9223372036854775807)(h0:0<=left)(h1:left<=1048576):
 Calls Tryz.prog 35 #[.slice a n c,.int .i64 left] w fun e w'=>e=.returned (.int .i64 (G7 left n))/\w'=w:=by
 by_cases hb:left-n<0
 . have e:G7 left n=-1:=a8 hb
   rw[e];go_enter Tryz.func35,Tryz.ntmps35;go_wp2
   go_ret
   exact⟨rfl,rfl⟩
 . have e:G7 left n=left-n:=bF hb
   rw[e];go_enter Tryz.func35,Tryz.ntmps35;go_wp2
   go_ret
   exact⟨rfl,rfl⟩
theorem Gl(a:Option Addr)(n c:Nat)(left:Int)(w:World)(hn:n<=9223372036854775807)(h0:0<=left)(h1:left<=1048576):
 Calls Tryz.prog 67 #[.slice a n c,.int .i64 left] w fun e w'=>e=.returned (.int .i64 (G7 left n))/\w'=w:=by
 by_cases hb:left-n<0
 . have e:G7 left n=-1:=a8 hb
   rw[e];go_enter Tryz.func67,Tryz.ntmps67;go_wp2
   go_ret
   exact⟨rfl,rfl⟩
 . have e:G7 left n=left-n:=bF hb
   rw[e];go_enter Tryz.func67,Tryz.ntmps67;go_wp2
   go_ret
   exact⟨rfl,rfl⟩
theorem Kz(a:Option Addr)(n c:Nat)(left:Int)(w:World)(hn:n<=9223372036854775807)(h0:0<=left)(h1:left<=1048576):
 Calls Tryz.prog 12 #[.slice a n c,.int .i64 left] w fun e w'=>e=.returned (.int .i64 (G7 left n))/\w'=w:=by
 by_cases hb:left-n<0
 . have e:G7 left n=-1:=a8 hb
   rw[e];go_enter Tryz.func12,Tryz.ntmps12;go_wp2
   go_ret
   exact⟨rfl,rfl⟩
 . have e:G7 left n=left-n:=bF hb
   rw[e];go_enter Tryz.func12,Tryz.ntmps12;go_wp2
   go_ret
   exact⟨rfl,rfl⟩
theorem LN(a:Option Addr)(n c:Nat)(left:Int)(w:World)(hn:n<=9223372036854775807)(h0:0<=left)(h1:left<=1048576):
 Calls Tryz.prog 14 #[.slice a n c,.int .i64 left] w fun e w'=>e=.returned (.int .i64 (G7 left n))/\w'=w:=by
 by_cases hb:left-n<0
 . have e:G7 left n=-1:=a8 hb
   rw[e];go_enter Tryz.func14,Tryz.ntmps14;go_wp2
   go_ret
   exact⟨rfl,rfl⟩
 . have e:G7 left n=left-n:=bF hb
   rw[e];go_enter Tryz.func14,Tryz.ntmps14;go_wp2
   go_ret
   exact⟨rfl,rfl⟩
theorem Js (s:Value)(fs:List (List Int))(left:Int)(w:World)(hL:fs.length<=9223372036854775807)(hs:∀f∈fs,f.length<=9223372036854775807)(h:OI w s fs)(h0:0<=left)(h1:left<=1048576):
 Calls Tryz.prog 11 #[s,.int .i64 left] w fun e w'=>∃r:Int,e=.returned (.int .i64 r)/\(r=-1\/0<=r/\r<=left/\(fs.length:Int)<=left/\∀f∈fs,(f.length:Int)<=left)/\w'=w:=by
 obtain⟨xs,hxs,hrd,hel⟩:=h;have hxl:xs.length=fs.length:=by rw[<-hxs];simp
 have H1:Hid (Rd w 1 s fs.length (xs.flatMap Bl)/\xs.map Prod.fst=fs/\(∀x∈xs,Rd w 1 x.2 x.1.length (x.1.flatMap Ac))/\(∀f∈fs,f.length<=9223372036854775807)/\xs.length=fs.length):=⟨hrd,hxs,hel,hs,hxl⟩
 obtain⟨a1,c1,rfl⟩:=hrd.is_slice;clear hrd hxs hel hs hxl;generalize hLL:fs.length=n at hL H1⊢;have HL:Hid (fs.length=n):=hLL;clear hLL;by_cases hb:left-n<0
 . go_enter Tryz.func11,Tryz.ntmps11
   go_wp2
   go_ret
   exact⟨-1,rfl,.inl rfl,rfl⟩
 . go_enter Tryz.func11,Tryz.ntmps11
   go_wp2
   go_loopw [1,5] (fun l i wr=>∃(k:Nat) (q:Int),k<=n/\l=.int .i64 q/\i=.int .i64 k/\0<=q/\q<=left/\Hid (∀f∈fs.take k,(f.length:Int)<=left)/\wr=w) (fun _ i _=>n-(intOf i).toNat)
   case atStart=>exact⟨0,left-n,by omega,rfl,rfl,by omega,by omega,(fun f hf=>by simp at hf),rfl⟩
   case round=>
    obtain⟨k,q,hk,rfl,rfl,q0,q1,HQ,rfl⟩:=hrel;by_cases hlt:k<n
    . obtain ⟨⟨f,v⟩,hx⟩:∃x,xs[k]?=some x:=⟨_,aA (by rw[H1.o.2.2.2.2];exact hlt)⟩
      have e1:=BM H1.o.2.1 hx;have hv:=H1.o.2.2.1 _ (aE hx);have hfl:=H1.o.2.2.2.1 _ (aE e1);simp only[]at hv hfl e1;obtain⟨av,cv,rfl⟩:=hv.is_slice;rcases H1.o.1.2 with⟨e0,_⟩|⟨g,o,c,e2,hc1⟩
      . omega
      . simp only[aF,aw]at e2
        obtain⟨rfl,rfl⟩:=e2;have i0:=Rd.elem AW hc1 k _ hx 0 _ rfl;rw[bf,aS]at i0;simp only[]at i0;have HE:Hid (fs[k]?=some f):=e1;clear hc1 hx hv e1;by_cases hq:q-f.length<0
        . have hz:G7 q f.length=-1:=a8 hq
          go_wp2_with fail
          refine(Bm av f.length cv q wr hfl q0 (by omega)).mono ?_;rw[hz];rintro e u ⟨rfl,rfl⟩;clear hz;go_wp2
          go_ret
          exact⟨-1,rfl,.inl rfl,rfl⟩
        . have hz:G7 q f.length=q-f.length:=bF hq
          go_wp2_with fail
          refine(Bm av f.length cv q wr hfl q0 (by omega)).mono ?_;rw[hz];rintro e u ⟨rfl,rfl⟩;clear hz;go_wp2
          go_roundw
          case rel=>
           refine⟨k+1,q-f.length,by omega,rfl,by go_num,by omega,by omega,?_,by trivial⟩;intro y hy;obtain⟨hlt',hf'⟩:=aD.1 HE.o;rw[ah hlt',hf']at hy;rcases aU.1 hy with hy|hy
           . exact HQ.o y hy
           . simp only[dU]at hy
             subst hy;omega
          case measure=>simp[intOf];omega
    . have hkn:k=n:=by omega
      subst hkn
      have HA:Hid (∀f∈fs,(f.length:Int)<=left):=by
       have:=HQ.o;rw[<-HL.o,List.take_length]at this;exact this
      clear HQ;go_wp2
      go_ret
      exact⟨q,rfl,.inr ⟨q0,q1,by omega,HA.o⟩,rfl⟩
def MF.fits(f:MF):Prop:=f.params.length<=9223372036854775807/\f.locals.length<=9223372036854775807/\f.code.length<=9223372036854775807
theorem M7(v:VF)(f:MF)(left:Int)(w:World)(hf:f.fits)(h:C9 w v f)(h0:0<=left)(h1:left<=1048576):
 Calls Tryz.prog 36 #[.agg #[v.p,.int .i64 f.result,v.l,v.c],.int .i64 left] w fun e w'=>∃r:Int,e=.returned (.int .i64 r)/\(r=-1\/0<=r/\r<=left/\f.small)/\Below w.heap.size w w':=by
 obtain⟨a1,c1,e1⟩:=h.1.is_slice;obtain⟨a2,c2,e2⟩:=h.2.1.is_slice;obtain⟨a3,c3,e3⟩:=h.2.2.is_slice;rw[e1,e2,e3];clear e1 e2 e3 h;have hbel:Below w.heap.size w (w.alloc (.cells #[.slice a1 f.params.length c1,.int .i64 f.result,.slice a2 f.locals.length c2,.slice a3 f.code.length c3] 96)):=(aX _ _).alloc lR _;obtain⟨f1,f2,f3⟩:=hf;unfold MF.small;generalize f.params.length=n1 at f1 hbel;generalize f.locals.length=n2 at f2 hbel;generalize f.code.length=n3 at f3 hbel;have HB:Hid _:=hbel;clear hbel;by_cases q1:left-n1<0
 . have z1:G7 left n1=-1:=a8 q1
   go_enter Tryz.func36,Tryz.ntmps36;go_wp2_with fail
   refine(Bm a1 n1 c1 left _ f1 h0 h1).mono ?_;rw[z1];rintro e u ⟨rfl,rfl⟩;clear z1;go_wp2
   go_ret
   exact⟨-1,rfl,.inl rfl,HB.o⟩
 . have z1:G7 left n1=left-n1:=bF q1
   by_cases q2:left-n1-n2<0
   . have z2:G7 (left-n1) n2=-1:=a8 q2
     go_enter Tryz.func36,Tryz.ntmps36;go_wp2_with fail
     refine(Bm a1 n1 c1 left _ f1 h0 h1).mono ?_;rw[z1];rintro e u ⟨rfl,rfl⟩;go_wp2_with fail
     refine(Bm a2 n2 c2 (left-n1) _ f2 (by omega) (by omega)).mono ?_;rw[z2];rintro e u ⟨rfl,rfl⟩;clear z1 z2;go_wp2
     go_ret
     exact⟨-1,rfl,.inl rfl,HB.o⟩
   . have z2:G7 (left-n1) n2=left-n1-n2:=bF q2
     by_cases q3:left-n1-n2-n3<0
     . have z3:G7 (left-n1-n2) n3=-1:=a8 q3
       go_enter Tryz.func36,Tryz.ntmps36;go_wp2_with fail
       refine(Bm a1 n1 c1 left _ f1 h0 h1).mono ?_;rw[z1];rintro e u ⟨rfl,rfl⟩;go_wp2_with fail
       refine(Bm a2 n2 c2 (left-n1) _ f2 (by omega) (by omega)).mono ?_;rw[z2];rintro e u ⟨rfl,rfl⟩;go_wp2_with fail
       refine(Gl a3 n3 c3 (left-n1-n2) _ f3 (by omega) (by omega)).mono ?_;rw[z3];rintro e u ⟨rfl,rfl⟩;clear z1 z2 z3;go_wp2
       go_ret
       exact⟨-1,rfl,.inl rfl,HB.o⟩
     . have z3:G7 (left-n1-n2) n3=left-n1-n2-n3:=bF q3
       go_enter Tryz.func36,Tryz.ntmps36;go_wp2_with fail
       refine(Bm a1 n1 c1 left _ f1 h0 h1).mono ?_;rw[z1];rintro e u ⟨rfl,rfl⟩;go_wp2_with fail
       refine(Bm a2 n2 c2 (left-n1) _ f2 (by omega) (by omega)).mono ?_;rw[z2];rintro e u ⟨rfl,rfl⟩;go_wp2_with fail
       refine(Gl a3 n3 c3 (left-n1-n2) _ f3 (by omega) (by omega)).mono ?_;rw[z3];rintro e u ⟨rfl,rfl⟩;clear z1 z2 z3;go_wp2
       go_ret
       exact⟨left-n1-n2-n3,rfl,.inr ⟨by omega,by omega,by omega,by omega,by omega⟩,HB.o⟩
theorem LO (s:Value)(fs:List MF)(left:Int)(w:World)(hL:fs.length<=9223372036854775807)(hs:∀f∈fs,f.fits)(h:Hq w s fs)(h0:0<=left)(h1:left<=1048576):
 Calls Tryz.prog 13 #[s,.int .i64 left] w fun e w'=>∃r:Int,e=.returned (.int .i64 r)/\(r=-1\/0<=r/\r<=left/\(fs.length:Int)<=left/\∀f∈fs,f.small)/\Below w.heap.size w w':=by
 obtain⟨xs,hxs,hrd,hel⟩:=h;have hxl:xs.length=fs.length:=by rw[<-hxs];simp
 have H1:Hid (Rd w 4 s fs.length (xs.flatMap Bi)/\xs.map Prod.fst=fs/\(∀x∈xs,C9 w x.2 x.1)/\(∀f∈fs,f.fits)/\xs.length=fs.length):=⟨hrd,hxs,hel,hs,hxl⟩
 obtain⟨a1,c1,rfl⟩:=hrd.is_slice;clear hrd hxs hel hs hxl;generalize hLL:fs.length=n at hL H1⊢;have HL:Hid (fs.length=n):=hLL;clear hLL;by_cases hb:left-n<0
 . go_enter Tryz.func13,Tryz.ntmps13
   go_wp2
   go_ret
   exact⟨-1,rfl,.inl rfl,aX _ _⟩
 . go_enter Tryz.func13,Tryz.ntmps13
   go_wp2
   go_loopw [1,5] (fun l i wr=>∃(k:Nat) (q:Int),k<=n/\l=.int .i64 q/\i=.int .i64 k/\0<=q/\q<=left/\Hid (∀f∈fs.take k,f.small)/\Below w.heap.size w wr) (fun _ i _=>n-(intOf i).toNat)
   case atStart=>exact⟨0,left-n,by omega,rfl,rfl,by omega,by omega,(fun f hf=>by simp at hf),aX _ _⟩
   case round=>
    obtain⟨k,q,hk,rfl,rfl,q0,q1,HQ,hbel⟩:=hrel;have HB:Hid (Below w.heap.size w wr):=hbel;clear hbel;by_cases hlt:k<n
    . obtain ⟨⟨f,v⟩,hx⟩:∃x,xs[k]?=some x:=⟨_,aA (by rw[H1.o.2.2.2.2];exact hlt)⟩
      have e1:=BM H1.o.2.1 hx;have hv:=H1.o.2.2.1 _ (aE hx);have hfl:=H1.o.2.2.2.1 _ (aE e1);simp only[]at hv hfl e1;rcases H1.o.1.2 with⟨e0,_⟩|⟨g,o,c,e2,hc1⟩
      . omega
      . simp only[aF,aw]at e2
        obtain⟨rfl,rfl⟩:=e2;have i0:=Rd.elem Ah hc1 k _ hx 0 _ rfl;have i1:=Rd.elem Ah hc1 k _ hx 1 _ rfl;have i2:=Rd.elem Ah hc1 k _ hx 2 _ rfl;have i3:=Rd.elem Ah hc1 k _ hx 3 _ rfl;rw[<-HB.o.cell (aC i0),aS]at i0;rw[<-HB.o.cell (aC i1)]at i1;rw[<-HB.o.cell (aC i2)]at i2;rw[<-HB.o.cell (aC i3)]at i3;simp only[]at i0 i1 i2 i3;have HE:Hid (fs[k]?=some f/\C9 wr v f/\f.fits):=⟨e1,hv.keep HB.o lR,hfl⟩
        clear hc1 hx hv e1 hfl;go_wp2_with fail
        refine(M7 v f q wr HE.o.2.2 HE.o.2.1 q0 (by omega)).mono ?_;rintro e u ⟨r,rfl,hr,hbu⟩;have HB2:Hid (Below w.heap.size w u):=HB.o.trans (hbu.mono HB.o.size);clear hbu HB i0 i1 i2 i3;rcases hr with rfl|⟨r0,r1,hsm⟩
        . go_wp2
          go_ret
          exact⟨-1,rfl,.inl rfl,HB2.o⟩
        . have HS:Hid f.small:=hsm
          clear hsm;go_wp2
          go_roundw
          case rel=>
           refine⟨k+1,r,by omega,rfl,by go_num,by omega,by omega,?_,HB2.o⟩;intro y hy;obtain⟨hlt',hf'⟩:=aD.1 HE.o.1;rw[ah hlt',hf']at hy;rcases aU.1 hy with hy|hy
           . exact HQ.o y hy
           . simp only[dU]at hy
             subst hy;exact HS.o
          case measure=>simp[intOf];omega
    . have hkn:k=n:=by omega
      subst hkn
      have HA:Hid (∀f∈fs,f.small):=by
       have:=HQ.o;rw[<-HL.o,List.take_length]at this;exact this
      clear HQ;go_wp2
      go_ret
      exact⟨q,rfl,.inr ⟨q0,q1,by omega,HA.o⟩,HB.o⟩
structure MP.fits(p:MP):Prop where
 regions:p.regions.length<=9223372036854775807
 region:∀r∈p.regions,r.length<=9223372036854775807
 consts:p.consts.length<=9223372036854775807
 funcs:p.funcs.length<=9223372036854775807
 func:∀f∈p.funcs,f.fits
 certs:p.certs.length<=9223372036854775807
theorem JV{left:Int}{n:Nat}(h0:0<=left)(h1:left<=1048576):G7 left n=-1\/0<=G7 left n/\G7 left n<=left/\(n:Int)<=left:=by
 unfold G7;by_cases h:left-n<0
 . rw[a8 h];exact .inl rfl
 . rw[bF h];exact .inr ⟨by omega,by omega,by omega⟩
structure Qj(w u:World)(tp:TypeId)(p:List Value):Prop where
 par:u.ownsRow w.heap.size tp 4 (.slice (some ⟨w.heap.size,0,none⟩) 1 1) 1 p
 bel:Below w.heap.size w u
theorem Qj.of(w:World)(tp:TypeId)(p:Array Value)(hp:p.size=4):Qj w (w.alloc (.cells p tp)) tp p.toList:=
 ⟨cX (base:=w.heap.size) (e:=tp) (size:=4) w p 1 lR (by unfold maxLen;omega) (by omega),(aX _ _).alloc lR _⟩
theorem Qj.keep{w u u':World}{tp:TypeId}{p:List Value}(h:Qj w u tp p)(hb:Below u.heap.size u u'):Qj w u' tp p:=
 ⟨Ag h.par hb lR,h.bel.trans (hb.mono h.bel.size)⟩
theorem Jt(v:VP)(p:MP)(left:Int)(w:World)(hf:p.fits)(h:Dg w v p)(h0:0<=left)(h1:left<=1048576):
 Calls Tryz.prog 4 #[.agg #[v.r,v.k,v.f,v.t],.int .i64 left] w fun e w'=>∃r:Int,e=.returned (.int .i64 r)/\(r=-1\/0<=r/\r<=left/\p.small)/\Below w.heap.size w w':=by
 obtain⟨a2,c2,e2⟩:=h.consts.is_slice;obtain⟨a4,c4,e4⟩:=h.certs.is_slice;obtain⟨vr,vk,vf,vt⟩:=v;simp only[]at e2 e4;subst e2;subst e4;have F0:=Qj.of w 27 #[vr,.slice a2 p.consts.length c2,vf,.slice a4 p.certs.length c4] rfl;have HF:Hid p.fits:=hf;clear hf;go_enter Tryz.func4,Tryz.ntmps4;go_wp2_with fail
 refine(Js vr p.regions left _ HF.o.regions HF.o.region (h.regions.keep F0.bel lR) h0 h1).mono ?_;rintro e u1 ⟨r1,rfl,hr,rfl⟩;rcases hr with rfl|⟨r10,r11,r12,r13⟩
 . go_wp2
   go_ret
   exact⟨-1,rfl,.inl rfl,F0.bel⟩
 have HR:Hid (∀f∈p.regions,(f.length:Int)<=left):=r13;clear r13;obtain⟨p0,p1,p2,p3,_⟩:=Cz F0.par;go_wp2_with fail
 refine(Kz a2 p.consts.length c2 r1 _ HF.o.consts r10 (by omega)).mono ?_;rintro e u2 ⟨rfl,rfl⟩;have hz:=JV (n:=p.consts.length) r10 (by omega);generalize G7 r1 p.consts.length=r2 at hz;rcases hz with rfl|⟨r20,r21,r22⟩
 . go_wp2
   go_ret
   exact⟨-1,rfl,.inl rfl,F0.bel⟩
 go_wp2_with fail
 refine(LO vf p.funcs r2 _ HF.o.funcs HF.o.func (h.funcs.keep F0.bel lR) r20 (by omega)).mono ?_;rintro e u3 ⟨r3,rfl,hr,b3⟩;have F3:=F0.keep b3;clear b3 p0 p1 p2 p3;rcases hr with rfl|⟨r30,r31,r32,r33⟩
 . go_wp2
   go_ret
   exact⟨-1,rfl,.inl rfl,F3.bel⟩
 have HS:Hid (∀f∈p.funcs,f.small):=r33;clear r33;obtain⟨p0,p1,p2,p3,_⟩:=Cz F3.par;go_wp2_with fail
 refine(LN a4 p.certs.length c4 r3 _ HF.o.certs r30 (by omega)).mono ?_;rintro e u4 ⟨rfl,rfl⟩;have hz:=JV (n:=p.certs.length) r30 (by omega);generalize G7 r3 p.certs.length=r4 at hz;rcases hz with rfl|⟨r40,r41,r42⟩
 . go_wp2
   go_ret
   exact⟨-1,rfl,.inl rfl,F3.bel⟩
 go_wp2
 go_ret
 refine⟨r4,rfl,.inr ⟨r40,by omega,⟨by omega,fun f hf=> ?_,by omega,by omega,HS.o,by omega⟩⟩,F3.bel⟩;have:=HR.o f hf;omega
section
variable {H:Type} {enc:TypeId×Value->H} {P:Program} {w:World} {spare:Nat->Bool} {held:Bool}
theorem Ej(b off:Nat)(i:Nat):(⟨b,off,none⟩:Addr).add i=⟨b,off+i,none⟩:=by unfold Addr.add;split<;>simp_all
theorem Dp{α:Type}[Inhabited α](f:α->List Value)(G:α->Prop)(m:Nat)(hf:∀y,(f y).length=m)(h0:0<m){t e:TypeId}(ht:P.underlying t=some (.slice e))(hm:P.cellsOf e=m)
 (hel:∀fuel cs x,DataW.trod enc P w 0 spare held fuel e cs=some x->∃y,cs=f y/\G y) {fuel:Nat} {cs:List Value} {x:DataW H×List MemPlace} (h:DataW.trod enc P w 0 spare held fuel t cs=some x):
 ∃(s:Value) (ys:List α),cs=[s]/\Rd w m s ys.length (ys.flatMap f)/\ys.length<=maxLen/\∀y∈ys,G y:=by
 rcases DataW.trod_slice ht h with⟨rfl,_⟩|⟨a,len,cap,elems,rest,n,_,rfl,_,_,hl,hmx,hlen,hE,_,_⟩
 . exact⟨_,[],rfl,⟨by simp,.inl ⟨rfl,_,_,rfl⟩⟩,by simp,fun y hy=>by cases hy⟩
 . rw [hm]at hE
   have hy:∀i,i<len->∃y,w.cells? 0 (a.add (i*m)) m=some (f y)/\G y:=by
    intro i hi;have h1:=hE i hi;rw[aA (by omega)]at h1;obtain⟨cs',hc,hx⟩:=Option.bind_eq_some_iff.1 h1;obtain⟨y,rfl,hg⟩:=hel _ _ _ hx;exact⟨y,hc,hg⟩
   obtain⟨F,hF⟩:=Go.Deep.choose_lt hy;refine⟨_,(List.range len).map F,rfl,⟨?_,?_⟩,by simp;omega,?_⟩
   . rw[As f m hf]
   . by_cases hz:len=0
     . subst hz
       exact .inl ⟨by simp,_,_,rfl⟩
     . obtain⟨b,off,spot⟩:=a
       have hc0:=(World.cells?_some (hF 0 (by omega)).1).2.2 0 h0;have hfl:0<(f (F 0)).length:=by rw[hf];exact h0
       rw[aA hfl]at hc0;have hspot:spot=none:=by simpa[Addr.add]using World.cell?_spot hc0
       subst hspot;refine .inr ⟨b,off,cap,by simp,fun j u hj=> ?_⟩
       have hjl:j<len*m:=by
        have:=(aD.1 hj).1;rw[As f m hf]at this;simpa using this
       have hq:j / m<len:=(Nat.div_lt_iff_lt_mul h0).2 hjl;have hr:=Nat.mod_lt j h0;have ej:j=j / m*m+j % m:=by rw[Nat.mul_comm];exact(Nat.div_add_mod j m).symm
       have hk:((List.range len).map F)[j / m]?=some (F (j / m)):=by simp[hq]
       have hcell:=(World.cells?_some (hF (j / m) hq).1).2.2 (j % m) hr;have hat:=FZ f m hf _ (j / m) (j % m) _ hk hr;rw[<-ej,hj]at hat;rw[Ej,Ej,Nat.add_assoc,<-ej]at hcell;rw[hcell,<-hat]
   . intro y hy'
     obtain⟨i,hi,rfl⟩:=au.1 hy';exact(hF i (br.1 hi)).2
end
instance:Inhabited MI:=⟨⟨0,0,0,0⟩⟩
instance:Inhabited MC:=⟨⟨0,0⟩⟩
instance:Inhabited MT:=⟨⟨0,0,0,0⟩⟩
instance:Inhabited MF:=⟨⟨[],0,[],[]⟩⟩
instance:Inhabited VF:=⟨⟨.bool true,.bool true,.bool true⟩⟩
def CD(z:Int):Prop:=(Lit.int .i64 z).wf=true
def QG(z:Int):Prop:=(Lit.int .u32 z).wf=true
def MI.wf(x:MI):Prop:=CD x.op/\CD x.a/\CD x.b/\CD x.c
def MC.wf(x:MC):Prop:=CD x.type/\QG x.word
def MT.wf(x:MT):Prop:=CD x.func/\CD x.head/\CD x.counter/\QG x.init
structure MF.wf(f:MF):Prop where
 params:∀z∈f.params,CD z
 result:CD f.result
 locals:∀z∈f.locals,CD z
 code:∀x∈f.code,x.wf
structure MP.wf(p:MP):Prop where
 regions:∀r∈p.regions,∀z∈r,CD z
 consts:∀x∈p.consts,x.wf
 funcs:∀f∈p.funcs,f.wf
 certs:∀x∈p.certs,x.wf
theorem FW:Tryz.prog.cellsOf 2=1:=by kernel_rfl
theorem Np:Tryz.prog.cellsOf 70=1:=by kernel_rfl
theorem K1:Tryz.prog.cellsOf 28=1:=by kernel_rfl
theorem N0:Tryz.prog.cellsOf 22=1:=by kernel_rfl
theorem Ns:Tryz.prog.cellsOf 178=4:=by kernel_rfl
theorem Nq:Tryz.prog.cellsOf 116=2:=by kernel_rfl
theorem Nt:Tryz.prog.cellsOf 119=4:=by kernel_rfl
theorem Nr:Tryz.prog.cellsOf 96=4:=by kernel_rfl
theorem PM:Tryz.prog.cellsOf 27=4:=by kernel_rfl
theorem PQ:Tryz.prog.cellsOf 94=1:=by kernel_rfl
theorem PN:Tryz.prog.cellsOf 23=1:=by kernel_rfl
theorem PR:Tryz.prog.cellsOf 25=1:=by kernel_rfl
theorem PP:Tryz.prog.cellsOf 24=1:=by kernel_rfl
section
variable {H:Type} {enc:TypeId×Value->H} {w:World} {spare:Nat->Bool} {held:Bool} {fuel:Nat} {cs:List Value} {x:DataW H×List MemPlace}
theorem PU{cs:List Value}(h:cs.length=4):∃a b c d,cs=[a,b,c,d]:=by
 match cs,h with
 |[a,b,c,d],_=>exact⟨a,b,c,d,rfl⟩
theorem two{cs:List Value}(h:cs.length=2):∃a b,cs=[a,b]:=by
 match cs,h with
 |[a,b],_=>exact⟨a,b,rfl⟩
theorem Ch(h:DataW.trod enc Tryz.prog w 0 spare held fuel 2 cs=some x):∃z,cs=Ac z/\CD z:=by
 obtain⟨n,h1,_,h2⟩:=DataW.trod_int Tryz.underlying2 h;exact⟨n,h1,h2⟩
theorem Lv(h:DataW.trod enc Tryz.prog w 0 spare held fuel 70 cs=some x):∃z,cs=[.int .u32 z]/\QG z:=by
 obtain⟨n,h1,_,h2⟩:=DataW.trod_int Tryz.underlying70 h;exact⟨n,h1,h2⟩
theorem MY(h:DataW.trod enc Tryz.prog w 0 spare held fuel 178 cs=some x):∃y:MI,cs=y.cells/\y.wf:=by
 obtain⟨y0,y1,y2,y3,n,_,hl,g0,g1,g2,g3⟩:=Go.Joins.trod_struct4 Tryz.underlying178 h;rw[Ns]at hl;obtain⟨a,b,c,d,rfl⟩:=PU hl;simp only[FW,List.drop_zero,List.drop_succ_cons,List.take_succ_cons,List.take_zero]at g0 g1 g2 g3;obtain⟨z0,e0,w0⟩:=Ch g0;obtain⟨z1,e1,w1⟩:=Ch g1;obtain⟨z2,e2,w2⟩:=Ch g2;obtain⟨z3,e3,w3⟩:=Ch g3;simp only[Ac,dN,cw]at e0 e1 e2 e3;subst e0 e1 e2 e3;exact⟨⟨z0,z1,z2,z3⟩,rfl,w0,w1,w2,w3⟩
theorem Oi(h:DataW.trod enc Tryz.prog w 0 spare held fuel 119 cs=some x):∃y:MT,cs=y.cells/\y.wf:=by
 obtain⟨y0,y1,y2,y3,n,_,hl,g0,g1,g2,g3⟩:=Go.Joins.trod_struct4 Tryz.underlying119 h;rw[Nt]at hl;obtain⟨a,b,c,d,rfl⟩:=PU hl;simp only[FW,Np,List.drop_zero,List.drop_succ_cons,List.take_succ_cons,List.take_zero]at g0 g1 g2 g3;obtain⟨z0,e0,w0⟩:=Ch g0;obtain⟨z1,e1,w1⟩:=Ch g1;obtain⟨z2,e2,w2⟩:=Ch g2;obtain⟨z3,e3,w3⟩:=Lv g3;simp only[Ac,dN,cw]at e0 e1 e2 e3;subst e0 e1 e2 e3;exact⟨⟨z0,z1,z2,z3⟩,rfl,w0,w1,w2,w3⟩
theorem MX(h:DataW.trod enc Tryz.prog w 0 spare held fuel 116 cs=some x):∃y:MC,cs=y.cells/\y.wf:=by
 obtain⟨y0,y1,n,_,hl,g0,g1⟩:=trod_struct2 Tryz.underlying116 h;rw[Nq]at hl;obtain⟨a,b,rfl⟩:=two hl;simp only[FW,Np,List.drop_zero,List.drop_succ_cons,List.take_succ_cons,List.take_zero]at g0 g1;obtain⟨z0,e0,w0⟩:=Ch g0;obtain⟨z1,e1,w1⟩:=Lv g1;simp only[Ac,dN,cw]at e0 e1;subst e0 e1;exact⟨⟨z0,z1⟩,rfl,w0,w1⟩
theorem DN(h:DataW.trod enc Tryz.prog w 0 spare held fuel 28 cs=some x):∃y:List Int×Value,cs=Bl y/\Rd w 1 y.2 y.1.length (y.1.flatMap Ac)/\y.1.length<=maxLen/\∀z∈y.1,CD z:=by
 obtain⟨s,ys,e,h1,h2,h3⟩:=Dp Ac CD 1 Ap (by omega) Tryz.underlying28 FW (fun _ _ _=>Ch) h;exact⟨(ys,s),e,h1,h2,h3⟩
theorem Oj(h:DataW.trod enc Tryz.prog w 0 spare held fuel 96 cs=some x):∃y:MF×VF,cs=Bi y/\C9 w y.2 y.1/\y.1.fits/\y.1.wf:=by
 obtain⟨y0,y1,y2,y3,n,_,hl,g0,g1,g2,g3⟩:=Go.Joins.trod_struct4 Tryz.underlying96 h;rw[Nr]at hl;obtain⟨a,b,c,d,rfl⟩:=PU hl;simp only[FW,K1,PQ,List.drop_zero,List.drop_succ_cons,List.take_succ_cons,List.take_zero]at g0 g1 g2 g3;obtain⟨⟨l0,s0⟩,e0,w0,m0,k0⟩:=DN g0;obtain⟨z1,e1,w1⟩:=Ch g1;obtain⟨⟨l2,s2⟩,e2,w2,m2,k2⟩:=DN g2;obtain⟨s3,l3,e3,w3,m3,k3⟩:=Dp MI.cells MI.wf 4 MI.cells_length (by omega) Tryz.underlying94 Ns (fun _ _ _=>MY) g3;simp only[Ac,Bl,dN,cw]at e0 e1 e2 e3;subst e0 e1 e2 e3;exact⟨(⟨l0,z1,l2,l3⟩,⟨a,c,d⟩),rfl,⟨w0,w2,w3⟩,⟨by simp[maxLen]at m0;exact m0,by simp[maxLen]at m2;exact m2,by simp[maxLen]at m3;exact m3⟩,⟨k0,w1,k2,k3⟩⟩
theorem Kt(h:DataW.trod enc Tryz.prog w 0 spare held fuel 27 cs=some x):∃(p:MP) (v:VP),cs=[v.r,v.k,v.f,v.t]/\Dg w v p/\p.fits/\p.wf:=by
 obtain⟨y0,y1,y2,y3,n,_,hl,g0,g1,g2,g3⟩:=Go.Joins.trod_struct4 Tryz.underlying27 h;rw[PM]at hl;obtain⟨a,b,c,d,rfl⟩:=PU hl;simp only[N0,PN,PP,PR,List.drop_zero,List.drop_succ_cons,List.take_succ_cons,List.take_zero]at g0 g1 g2 g3;obtain⟨s0,l0,e0,w0,m0,k0⟩:=Dp Bl (fun y=>Rd w 1 y.2 y.1.length (y.1.flatMap Ac)/\y.1.length<=maxLen/\∀z∈y.1,CD z) 1 AW (by omega) Tryz.underlying22 K1 (fun _ _ _=>DN) g0
 obtain⟨s1,l1,e1,w1,m1,k1⟩:=Dp MC.cells MC.wf 2 MC.cells_length (by omega) Tryz.underlying23 Nq (fun _ _ _=>MX) g1;obtain⟨s2,l2,e2,w2,m2,k2⟩:=Dp Bi (fun y=>C9 w y.2 y.1/\y.1.fits/\y.1.wf) 4 Ah (by omega) Tryz.underlying24 Nr (fun _ _ _=>Oj) g2
 obtain⟨s3,l3,e3,w3,m3,k3⟩:=Dp MT.cells MT.wf 4 MT.cells_length (by omega) Tryz.underlying25 Nt (fun _ _ _=>Oi) g3;simp only[dN,cw]at e0 e1 e2 e3;subst e0 e1 e2 e3;have hm:∀n:Nat,n<=maxLen->n<=9223372036854775807:=fun n h=>by simp[maxLen]at h;exact h
 refine⟨⟨l0.map Prod.fst,l1,l2.map Prod.fst,l3⟩,⟨a,b,c,d⟩,rfl,⟨⟨l0,rfl,by simpa using w0,fun y hy=>(k0 y hy).1⟩,w1,⟨l2,rfl,by simpa using w2,fun y hy=>(k2 y hy).1⟩,w3⟩,⟨by simpa using hm _ m0,?_,hm _ m1,by simpa using hm _ m2,?_,hm _ m3⟩,⟨?_,k1,?_,k3⟩⟩
 . intro r hr
   obtain⟨y,hy,rfl⟩:=au.1 hr;exact hm _ (k0 y hy).2.1
 . intro r hr
   obtain⟨y,hy,rfl⟩:=au.1 hr;exact(k2 y hy).2.1
 . intro r hr
   obtain⟨y,hy,rfl⟩:=au.1 hr;exact(k0 y hy).2.2
 . intro r hr
   obtain⟨y,hy,rfl⟩:=au.1 hr;exact(k2 y hy).2.2
end
def Aj(e:Ending)(q:Prop):Prop:=∃b,e=.returned (.bool b)/\(b=true↔q)
theorem Aj.yes{q:Prop}(h:q):Aj (.returned (.bool true)) q:=⟨_,rfl,by simp[h]⟩
theorem Aj.no{q:Prop}(h:¬q):Aj (.returned (.bool false)) q:=⟨_,rfl,by simp[h]⟩
theorem Aj.of{q:Prop}{b:Bool}(h:b=true↔q):Aj (.returned (.bool b)) q:=⟨_,rfl,h⟩
theorem Aj.iff{e:Ending}{q q':Prop}(h:Aj e q)(hq:q↔q'):Aj e q':=by
 obtain⟨b,rfl,hb⟩:=h;exact⟨b,rfl,hb.trans hq⟩
structure Cd(w:World)(b:Nat)(x y z t:Value):Prop where
 c0:w.cell? ⟨b,0,none⟩=some x
 c1:w.cell? ⟨b,1,none⟩=some y
 c2:w.cell? ⟨b,2,none⟩=some z
 c3:w.cell? ⟨b,3,none⟩=some t
theorem Cd.lt{w:World}{b:Nat}{x y z t:Value}(h:Cd w b x y z t):b<w.heap.size:=aC h.c0
theorem Cd.keep{w w':World}{b:Nat}{x y z t:Value}(h:Cd w b x y z t)(hb:Below w.heap.size w w'):Cd w' b x y z t:=
 ⟨by rw[hb.cell h.lt];exact h.c0,by rw[hb.cell h.lt];exact h.c1,by rw[hb.cell h.lt];exact h.c2,by rw[hb.cell h.lt];exact h.c3⟩
theorem Cd.new(w:World)(x y z t:Value)(ty:TypeId):Cd (w.alloc (.cells #[x,y,z,t] ty)) w.heap.size x y z t:=by
 have h:=cX (base:=w.heap.size) (e:=ty) (size:=4) w #[x,y,z,t] 1 lR (by unfold maxLen;omega) (by simp);exact⟨h.cellAt 0 (by omega),h.cellAt 1 (by omega),h.cellAt 2 (by omega),h.cellAt 3 (by omega)⟩
theorem Cd.alloc{w:World}{b:Nat}{x y z t:Value}(h:Cd w b x y z t)(o:Obj):Cd (w.alloc o) b x y z t:=h.keep ((aX _ _).alloc lR _)
theorem Aa(w:World)(o:Obj):Below w.heap.size w (w.alloc o):=(aX _ _).alloc lR _
theorem Ae(w:World):Below w.heap.size w w.drew:=⟨rfl,rfl,rfl,Nat.le_refl _,fun _ _=>rfl⟩
theorem Ab{B:Nat}{w u u':World}(h:Below B w u)(hB:B<=w.heap.size)(h':Below u.heap.size u u'):Below B w u':=h.trans (h'.mono (aY hB h.size))
theorem Bv{w:World}{base:Nat}{e:TypeId}{s:Value}{k n:Nat}{xs:List Value}(h:w.ownsRow base e k s n xs):(s=.slice none 0 0/\n=0)\/∃g c,s=.slice (some ⟨g,0,none⟩) n c:=by
 rcases h.2 with h|⟨g,cap,cur,rfl,hb,_⟩
 . exact .inl h
 . exact .inr ⟨g,cap,rfl⟩
theorem Ax{w:World}{base:Nat}{e:TypeId}{s:Value}{k n:Nat}{xs:List Value}(h:w.ownsRow base e k s n xs):∃a c,s=.slice a n c:=by
 rcases Bv h with⟨rfl,rfl⟩|⟨g,c,rfl⟩<;>exact⟨_,_,rfl⟩
theorem Al{P:Program}{c:Code}{Q:Exit->Act->World->Prop}{a:Act}{U:World}(R:World->Prop)(h:R U)(k:∀u,R u->Code.wp P c Q a u):Code.wp P c Q a U:=k U h
theorem KT{α:Type}(q:α->Bool)(ys:List α)(k:Nat)(x:α)(hx:ys[k]?=some x)(h:(ys.take k).all q=true):(ys.take (k+1)).all q=q x:=by
 obtain⟨hlt,rfl⟩:=aD.1 hx;rw[ah hlt,List.all_append,h];simp
theorem Nn{α:Type}(q:α->Bool)(ys:List α)(x:α)(hx:x∈ys)(h:q x=false):ys.all q=false:=by
 rw[List.all_eq_false];exact⟨x,hx,by simp[h]⟩
theorem EP(s:Value)(ys:List Int)(w:World)(hn:ys.length<=1048576)(h:Rd w 1 s ys.length (ys.flatMap Ac)):
 Calls Tryz.prog 37 #[s] w fun e w'=>e=.returned (.bool (ys.all Db))/\w'=w:=by
 have H1:Hid (Rd w 1 s ys.length (ys.flatMap Ac)):=h;obtain⟨a1,c1,rfl⟩:=h.is_slice;clear h;generalize hLL:ys.length=n at hn H1;have HL:Hid (ys.length=n):=hLL;clear hLL;generalize hR:ys.all Db=R;have HR:Hid (ys.all Db=R):=hR;clear hR;go_enter Tryz.func37,Tryz.ntmps37;go_wp2
 go_loopw [3] (fun i wr=>∃k:Nat,k<=n/\i=.int .i64 k/\Hid ((ys.take k).all Db=true)/\wr=w) (fun i _=>n-(intOf i).toNat)
 case atStart=>exact⟨0,by omega,rfl,by simp[Hid],rfl⟩
 case round=>
  obtain⟨k,hk,rfl,HT,rfl⟩:=hrel;by_cases hlt:k<n
  . obtain⟨x,hx⟩:∃x,ys[k]?=some x:=⟨_,aA (by rw[HL.o];exact hlt)⟩
    rcases H1.o.2 with⟨e0,_⟩|⟨g,o,c,e1,hc1⟩
    . omega
    . simp only[aF,aw]at e1
      obtain⟨rfl,rfl⟩:=e1;have i0:=Rd.elem Ap hc1 k x hx 0 _ rfl;rw[bf,aS]at i0;have HX:Hid (ys[k]?=some x):=hx;clear hc1 hx;go_wp2_with fail
      refine(CO x wr).mono ?_;rintro e u ⟨rfl,rfl⟩;cases hq:Db x with
      | false=>
        have hR:R=false:=by
         rw[<-HR.o];exact Nn _ _ _ (aE HX.o) hq
        subst hR;clear hq;go_wp2
        go_ret
        exact⟨rfl,rfl⟩
      | true=>
        have HN:Hid ((ys.take (k+1)).all Db=true):=by
         show _=_;rw[KT _ _ _ _ HX.o HT.o];exact hq
        clear hq;go_wp2
        go_roundw
        case rel=>exact⟨k+1,by omega,by go_num,HN,by trivial⟩
        case measure=>simp[intOf];omega
  . have hkn:k=n:=by omega
    subst hkn
    have hR:R=true:=by
     rw[<-HR.o,<-HT.o,<-HL.o,List.take_length]
    subst hR;go_wp2
    go_ret
    exact⟨rfl,rfl⟩
end Go.Proofs.YtdipfjmlfbdkdaaGreat
