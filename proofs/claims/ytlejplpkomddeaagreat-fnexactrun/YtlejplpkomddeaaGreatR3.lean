import Derived.Test.YtlejplpkomddeaaGreatR0
import Derived.Test.YtlejplpkomddeaaGreatR2
import Derived.Lib.SmallJoins
import Derived.Deep.Slices
import Derived.Deep.Cut
import Derived.Deep.CutRange
namespace Go.Proofs.YtlejplpkomddeaaGreat
open Go.ChangeShapes Go.WideShapes Go.ChangeAt Go.RowKit
set_option linter.unusedVariables false
set_option maxHeartbeats 2000000
set_option maxRecDepth 100000
theorem Hx(s s':Value)(fs:List (List Int))(w:World)(hL:fs.length<=1048576)(hs:∀f∈fs,f.length<=1048576)(h:LE w s fs)(h':LE w s' fs):
 Calls Tryz.prog 48 #[s,s'] w fun e w'=>e=.returned (.bool true)/\Below w.heap.size w w':=by
 obtain⟨xs,hxs,hrd,hel⟩:=h;obtain⟨xs',hxs',hrd',hel'⟩:=h';have hxl:xs.length=fs.length:=by rw[<-hxs];simp
 have hxl':xs'.length=fs.length:=by rw[<-hxs'];simp
 have H1:=h5 hrd hxs hel hs hxl;have H2:=h5 hrd' hxs' hel' hs hxl';obtain⟨a1,c1,rfl⟩:=hrd.is_slice;obtain⟨a2,c2,rfl⟩:=hrd'.is_slice;clear hrd hxs hel hs hxl hrd' hxs' hel' hxl';generalize hLL:fs.length=n at hL H1 H2;clear hLL;go_enter Tryz.func48,Tryz.ntmps48;go_wp2
 go_loopw [5] (fun i wr=>∃k:Nat,k<=n/\i=.int .i64 k/\Below w.heap.size w wr) (fun i _=>n-(intOf i).toNat)
 case atStart=>exact⟨0,by omega,rfl,Below.refl _ _⟩
 case round=>
  obtain⟨k,hk,rfl,hbel⟩:=hrel;have HB:Hid (Below w.heap.size w wr):=hbel;clear hbel;by_cases hlt:k<n
  ·obtain⟨⟨f,v⟩,hx⟩:∃x,xs[k]?=some x:=⟨_,gE (by rw[H1.out.2.2.2.2];exact hlt)⟩
   obtain⟨⟨f',v'⟩,hx'⟩:∃x,xs'[k]?=some x:=⟨_,gE (by rw[H2.out.2.2.2.2];exact hlt)⟩;have e1:=Bh H1.out.2.1 hx;have e2:=Bh H2.out.2.1 hx'
   have hff:f'=f:=by
    rw[e1]at e2;exact(Option.some.inj e2).symm
   subst hff;have HX:Hid (Rd wr 1 v f'.length (f'.flatMap Ae)/\Rd wr 1 v' f'.length (f'.flatMap Ae)/\f'.length<=140737488355328):=⟨(H1.out.2.2.1 _ (mG hx)).keep HB.out lR,(H2.out.2.2.1 _ (mG hx')).keep HB.out lR,Nat.le_trans (H1.out.2.2.2.1 _ (mG e1)) (by omega)⟩
   clear e1 e2;rcases H1.out.1.2 with⟨e0,_⟩|⟨g,o,c,e1,hc1⟩
   ·omega
   ·rcases H2.out.1.2 with⟨e0,_⟩|⟨g',o',c',e2,hc2⟩
    ·omega
    ·simp only[sJ,true_and]at e1 e2
     obtain⟨rfl,rfl⟩:=e1;obtain⟨rfl,rfl⟩:=e2;have i0:=Rd.elem AO hc1 k _ hx 0 _ rfl;have j0:=Rd.elem AO hc2 k _ hx' 0 _ rfl;rw[<-HB.out.cell (bL i0)]at i0;rw[<-HB.out.cell (bL j0)]at j0;rw[Nat.mul_one,Nat.add_zero]at i0 j0;clear hc1 hc2 hx hx';simp only[]at i0 j0;go_wp2_with fail
     go_region_with (go_at_call 103;refine(EJ v v' f' _ HX.out.2.2 (by exact HX.out.1) (by exact HX.out.2.1)).mono ?_;rintro e u ⟨rfl,hbu⟩)
     all_goals
      have HB2:Hid (Below w.heap.size w u):=HB.out.trans (As hbu HB.out.size);clear hbu HB i0 j0;go_wp2
      go_roundw
      case rel=>exact⟨k+1,by omega,by go_num,HB2.out⟩
      case measure=>simp[intOf];omega
  ·go_wp2
   go_ret
   exact⟨rfl,HB.out⟩
theorem Io(v v':VP)(p:MP)(w:World)(hs:p.small)(h:Cx w v p)(h':Cx w v' p):
 Calls Tryz.prog 12 #[.agg #[v.r,v.k,v.f,v.t],.agg #[v'.r,v'.k,v'.f,v'.t]] w fun e w'=>e=.returned (.bool true)/\Below w.heap.size w w':=by
 have F0:=Pj.of w 45 #[v.r,v.k,v.f,v.t] #[v'.r,v'.k,v'.f,v'.t] rfl rfl;go_enter Tryz.func12,Tryz.ntmps12;go_wp2_with fail
 refine(Hx v.r v'.r p.regions _ hs.regions hs.region (h.regions.keep F0.bel lR) (h'.regions.keep F0.bel lR)).mono ?_;rintro e u1 ⟨rfl,b1⟩;have F1:=F0.keep b1;clear b1 F0;obtain⟨p0,p1,p2,p3,_⟩:=Dm F1.par;obtain⟨o0,o1,o2,o3,_⟩:=Dm F1.par';go_wp2_with fail
 refine(IR v.k v'.k p.consts _ hs.consts (h.consts.keep F1.bel lR) (h'.consts.keep F1.bel lR)).mono ?_;rintro e u2 ⟨rfl,b2⟩;have F2:=F1.keep b2;clear b2 F1 p0 p1 p2 p3 o0 o1 o2 o3;obtain⟨p0,p1,p2,p3,_⟩:=Dm F2.par;obtain⟨o0,o1,o2,o3,_⟩:=Dm F2.par';go_wp2_with fail
 refine(JA v.f v'.f p.funcs _ hs.funcs hs.func (h.funcs.keep F2.bel lR) (h'.funcs.keep F2.bel lR)).mono ?_;rintro e u3 ⟨rfl,b3⟩;have F3:=F2.keep b3;clear b3 F2 p0 p1 p2 p3 o0 o1 o2 o3;obtain⟨p0,p1,p2,p3,_⟩:=Dm F3.par;obtain⟨o0,o1,o2,o3,_⟩:=Dm F3.par';go_wp2_with fail
 refine(JE v.t v'.t p.certs _ hs.certs (h.certs.keep F3.bel lR) (h'.certs.keep F3.bel lR)).mono ?_;rintro e u4 ⟨rfl,b4⟩;have F4:=F3.keep b4;clear b4 F3 p0 p1 p2 p3 o0 o1 o2 o3;go_wp2
 go_ret
 exact⟨rfl,F4.bel⟩
def FU(left n:Int):Int:=if left-n<0 then -1 else left-n
theorem BN(a:Option Addr)(n c:Nat)(left:Int)(w:World)(hn:n<=9223372036854775807)(h0:0<=left)(h1:left<=1048576):
 Calls Tryz.prog 68 #[.slice a n c,.int .i64 left] w fun e w'=>e=.returned (.int .i64 (FU left n))/\w'=w:=by
 by_cases hb:left-n<0
 ·have e:FU left n=-1:=if_pos hb
  rw[e];go_enter Tryz.func68,Tryz.ntmps68;go_wp2
  go_ret
  exact⟨rfl,rfl⟩
 ·have e:FU left n=left-n:=if_neg hb
  rw[e];go_enter Tryz.func68,Tryz.ntmps68;go_wp2
  go_ret
  exact⟨rfl,rfl⟩
theorem Gk(a:Option Addr)(n c:Nat)(left:Int)(w:World)(hn:n<=9223372036854775807)(h0:0<=left)(h1:left<=1048576):
 Calls Tryz.prog 116 #[.slice a n c,.int .i64 left] w fun e w'=>e=.returned (.int .i64 (FU left n))/\w'=w:=by
 by_cases hb:left-n<0
 ·have e:FU left n=-1:=if_pos hb
  rw[e];go_enter Tryz.func116,Tryz.ntmps116;go_wp2
  go_ret
  exact⟨rfl,rfl⟩
 ·have e:FU left n=left-n:=if_neg hb
  rw[e];go_enter Tryz.func116,Tryz.ntmps116;go_wp2
  go_ret
  exact⟨rfl,rfl⟩
theorem Ju(a:Option Addr)(n c:Nat)(left:Int)(w:World)(hn:n<=9223372036854775807)(h0:0<=left)(h1:left<=1048576):
 Calls Tryz.prog 23 #[.slice a n c,.int .i64 left] w fun e w'=>e=.returned (.int .i64 (FU left n))/\w'=w:=by
 by_cases hb:left-n<0
 ·have e:FU left n=-1:=if_pos hb
  rw[e];go_enter Tryz.func23,Tryz.ntmps23;go_wp2
  go_ret
  exact⟨rfl,rfl⟩
 ·have e:FU left n=left-n:=if_neg hb
  rw[e];go_enter Tryz.func23,Tryz.ntmps23;go_wp2
  go_ret
  exact⟨rfl,rfl⟩
theorem KG(a:Option Addr)(n c:Nat)(left:Int)(w:World)(hn:n<=9223372036854775807)(h0:0<=left)(h1:left<=1048576):
 Calls Tryz.prog 25 #[.slice a n c,.int .i64 left] w fun e w'=>e=.returned (.int .i64 (FU left n))/\w'=w:=by
 by_cases hb:left-n<0
 ·have e:FU left n=-1:=if_pos hb
  rw[e];go_enter Tryz.func25,Tryz.ntmps25;go_wp2
  go_ret
  exact⟨rfl,rfl⟩
 ·have e:FU left n=left-n:=if_neg hb
  rw[e];go_enter Tryz.func25,Tryz.ntmps25;go_wp2
  go_ret
  exact⟨rfl,rfl⟩
theorem ID(s:Value)(fs:List (List Int))(left:Int)(w:World)(hL:fs.length<=9223372036854775807)(hs:∀f∈fs,f.length<=9223372036854775807)(h:LE w s fs)(h0:0<=left)(h1:left<=1048576):
 Calls Tryz.prog 22 #[s,.int .i64 left] w fun e w'=>∃r:Int,e=.returned (.int .i64 r)/\(r=-1\/0<=r/\r<=left/\(fs.length:Int)<=left/\∀f∈fs,(f.length:Int)<=left)/\w'=w:=by
 obtain⟨xs,hxs,hrd,hel⟩:=h;have hxl:xs.length=fs.length:=by rw[<-hxs];simp
 have H1:=h5 hrd hxs hel hs hxl;obtain⟨a1,c1,rfl⟩:=hrd.is_slice;clear hrd hxs hel hs hxl;generalize hLL:fs.length=n at hL H1⊢;have HL:Hid (fs.length=n):=hLL;clear hLL;by_cases hb:left-n<0
 ·go_enter Tryz.func22,Tryz.ntmps22
  go_wp2
  go_ret
  exact⟨-1,rfl,.inl rfl,rfl⟩
 ·go_enter Tryz.func22,Tryz.ntmps22
  go_wp2
  go_loopw [1,5] (fun l i wr=>∃(k:Nat) (q:Int),k<=n/\l=.int .i64 q/\i=.int .i64 k/\0<=q/\q<=left/\Hid (∀f∈fs.take k,(f.length:Int)<=left)/\wr=w) (fun _ i _=>n-(intOf i).toNat)
  case atStart=>exact⟨0,left-n,by omega,rfl,rfl,by omega,by omega,(fun f hf=>by simp at hf),rfl⟩
  case round=>
   obtain⟨k,q,hk,rfl,rfl,q0,q1,HQ,rfl⟩:=hrel;by_cases hlt:k<n
   ·obtain⟨⟨f,v⟩,hx⟩:∃x,xs[k]?=some x:=⟨_,gE (by rw[H1.out.2.2.2.2];exact hlt)⟩
    have e1:=Bh H1.out.2.1 hx;have hv:=H1.out.2.2.1 _ (mG hx);have hfl:=H1.out.2.2.2.1 _ (mG e1);simp only[]at hv hfl e1;obtain⟨av,cv,rfl⟩:=hv.is_slice;rcases H1.out.1.2 with⟨e0,_⟩|⟨g,o,c,e2,hc1⟩
    ·omega
    ·simp only[sJ,true_and]at e2
     obtain⟨rfl,rfl⟩:=e2;have i0:=Rd.elem AO hc1 k _ hx 0 _ rfl;rw[Nat.mul_one,Nat.add_zero]at i0;simp only[]at i0;have HE:Hid (fs[k]?=some f):=e1;clear hc1 hx hv e1;by_cases hq:q-f.length<0
     ·have hz:FU q f.length=-1:=if_pos hq
      go_wp2_with fail
      refine(BN av f.length cv q wr hfl q0 (by omega)).mono ?_;rw[hz];rintro e u ⟨rfl,rfl⟩;clear hz;go_wp2
      go_ret
      exact⟨-1,rfl,.inl rfl,rfl⟩
     ·have hz:FU q f.length=q-f.length:=if_neg hq
      go_wp2_with fail
      refine(BN av f.length cv q wr hfl q0 (by omega)).mono ?_;rw[hz];rintro e u ⟨rfl,rfl⟩;clear hz;go_wp2
      go_roundw
      case rel=>
       refine⟨k+1,q-f.length,by omega,rfl,by go_num,by omega,by omega,?_,by trivial⟩;intro y hy;obtain⟨hlt',hf'⟩:=gI.1 HE.out;rw[List.take_succ_eq_append_getElem hlt',hf']at hy;rcases List.mem_append.1 hy with hy|hy
       ·exact HQ.out y hy
       ·simp only[List.mem_singleton]at hy
        subst hy;omega
      case measure=>simp[intOf];omega
   ·have hkn:k=n:=by omega
    subst hkn
    have HA:Hid (∀f∈fs,(f.length:Int)<=left):=by
     have:=HQ.out;rw[<-HL.out,List.take_length]at this;exact this
    clear HQ;go_wp2
    go_ret
    exact⟨q,rfl,.inr ⟨q0,q1,by omega,HA.out⟩,rfl⟩
def MF.fits(f:MF):Prop:=f.params.length<=9223372036854775807/\f.locals.length<=9223372036854775807/\f.code.length<=9223372036854775807
theorem LM(v:VF)(f:MF)(left:Int)(w:World)(hf:f.fits)(h:CP w v f)(h0:0<=left)(h1:left<=1048576):
 Calls Tryz.prog 69 #[.agg #[v.p,.int .i64 f.result,v.l,v.c],.int .i64 left] w fun e w'=>∃r:Int,e=.returned (.int .i64 r)/\(r=-1\/0<=r/\r<=left/\f.small)/\Below w.heap.size w w':=by
 obtain⟨a1,c1,e1⟩:=h.1.is_slice;obtain⟨a2,c2,e2⟩:=h.2.1.is_slice;obtain⟨a3,c3,e3⟩:=h.2.2.is_slice;rw[e1,e2,e3];clear e1 e2 e3 h;have hbel:Below w.heap.size w (w.alloc (.cells #[.slice a1 f.params.length c1,.int .i64 f.result,.slice a2 f.locals.length c2,.slice a3 f.code.length c3] 117)):=(Below.refl _ _).alloc lR _;obtain⟨f1,f2,f3⟩:=hf;unfold MF.small;generalize f.params.length=n1 at f1 hbel;generalize f.locals.length=n2 at f2 hbel;generalize f.code.length=n3 at f3 hbel;have HB:Hid _:=hbel;clear hbel;by_cases q1:left-n1<0
 ·have z1:FU left n1=-1:=if_pos q1
  go_enter Tryz.func69,Tryz.ntmps69;go_wp2_with fail
  refine(BN a1 n1 c1 left _ f1 h0 h1).mono ?_;rw[z1];rintro e u ⟨rfl,rfl⟩;clear z1;go_wp2
  go_ret
  exact⟨-1,rfl,.inl rfl,HB.out⟩
 ·have z1:FU left n1=left-n1:=if_neg q1
  by_cases q2:left-n1-n2<0
  ·have z2:FU (left-n1) n2=-1:=if_pos q2
   go_enter Tryz.func69,Tryz.ntmps69;go_wp2_with fail
   refine(BN a1 n1 c1 left _ f1 h0 h1).mono ?_;rw[z1];rintro e u ⟨rfl,rfl⟩;go_wp2_with fail
   refine(BN a2 n2 c2 (left-n1) _ f2 (by omega) (by omega)).mono ?_;rw[z2];rintro e u ⟨rfl,rfl⟩;clear z1 z2;go_wp2
   go_ret
   exact⟨-1,rfl,.inl rfl,HB.out⟩
  ·have z2:FU (left-n1) n2=left-n1-n2:=if_neg q2
   by_cases q3:left-n1-n2-n3<0
   ·have z3:FU (left-n1-n2) n3=-1:=if_pos q3
    go_enter Tryz.func69,Tryz.ntmps69;go_wp2_with fail
    refine(BN a1 n1 c1 left _ f1 h0 h1).mono ?_;rw[z1];rintro e u ⟨rfl,rfl⟩;go_wp2_with fail
    refine(BN a2 n2 c2 (left-n1) _ f2 (by omega) (by omega)).mono ?_;rw[z2];rintro e u ⟨rfl,rfl⟩;go_wp2_with fail
    refine(Gk a3 n3 c3 (left-n1-n2) _ f3 (by omega) (by omega)).mono ?_;rw[z3];rintro e u ⟨rfl,rfl⟩;clear z1 z2 z3;go_wp2
    go_ret
    exact⟨-1,rfl,.inl rfl,HB.out⟩
   ·have z3:FU (left-n1-n2) n3=left-n1-n2-n3:=if_neg q3
    go_enter Tryz.func69,Tryz.ntmps69;go_wp2_with fail
    refine(BN a1 n1 c1 left _ f1 h0 h1).mono ?_;rw[z1];rintro e u ⟨rfl,rfl⟩;go_wp2_with fail
    refine(BN a2 n2 c2 (left-n1) _ f2 (by omega) (by omega)).mono ?_;rw[z2];rintro e u ⟨rfl,rfl⟩;go_wp2_with fail
    refine(Gk a3 n3 c3 (left-n1-n2) _ f3 (by omega) (by omega)).mono ?_;rw[z3];rintro e u ⟨rfl,rfl⟩;clear z1 z2 z3;go_wp2
    go_ret
    exact⟨left-n1-n2-n3,rfl,.inr ⟨by omega,by omega,by omega,by omega,by omega⟩,HB.out⟩
theorem Lh(s:Value)(fs:List MF)(left:Int)(w:World)(hL:fs.length<=9223372036854775807)(hs:∀f∈fs,f.fits)(h:Gc w s fs)(h0:0<=left)(h1:left<=1048576):
 Calls Tryz.prog 24 #[s,.int .i64 left] w fun e w'=>∃r:Int,e=.returned (.int .i64 r)/\(r=-1\/0<=r/\r<=left/\(fs.length:Int)<=left/\∀f∈fs,f.small)/\Below w.heap.size w w':=by
 obtain⟨xs,hxs,hrd,hel⟩:=h;have hxl:xs.length=fs.length:=by rw[<-hxs];simp
 have H1:=h5 hrd hxs hel hs hxl;obtain⟨a1,c1,rfl⟩:=hrd.is_slice;clear hrd hxs hel hs hxl;generalize hLL:fs.length=n at hL H1⊢;have HL:Hid (fs.length=n):=hLL;clear hLL;by_cases hb:left-n<0
 ·go_enter Tryz.func24,Tryz.ntmps24
  go_wp2
  go_ret
  exact⟨-1,rfl,.inl rfl,Below.refl _ _⟩
 ·go_enter Tryz.func24,Tryz.ntmps24
  go_wp2
  go_loopw [1,5] (fun l i wr=>∃(k:Nat) (q:Int),k<=n/\l=.int .i64 q/\i=.int .i64 k/\0<=q/\q<=left/\Hid (∀f∈fs.take k,f.small)/\Below w.heap.size w wr) (fun _ i _=>n-(intOf i).toNat)
  case atStart=>exact⟨0,left-n,by omega,rfl,rfl,by omega,by omega,(fun f hf=>by simp at hf),Below.refl _ _⟩
  case round=>
   obtain⟨k,q,hk,rfl,rfl,q0,q1,HQ,hbel⟩:=hrel;have HB:Hid (Below w.heap.size w wr):=hbel;clear hbel;by_cases hlt:k<n
   ·obtain⟨⟨f,v⟩,hx⟩:∃x,xs[k]?=some x:=⟨_,gE (by rw[H1.out.2.2.2.2];exact hlt)⟩
    have e1:=Bh H1.out.2.1 hx;have hv:=H1.out.2.2.1 _ (mG hx);have hfl:=H1.out.2.2.2.1 _ (mG e1);simp only[]at hv hfl e1;rcases H1.out.1.2 with⟨e0,_⟩|⟨g,o,c,e2,hc1⟩
    ·omega
    ·simp only[sJ,true_and]at e2
     obtain⟨rfl,rfl⟩:=e2;have i0:=Rd.elem Ai hc1 k _ hx 0 _ rfl;have i1:=Rd.elem Ai hc1 k _ hx 1 _ rfl;have i2:=Rd.elem Ai hc1 k _ hx 2 _ rfl;have i3:=Rd.elem Ai hc1 k _ hx 3 _ rfl;rw[<-HB.out.cell (bL i0),Nat.add_zero]at i0;rw[<-HB.out.cell (bL i1)]at i1;rw[<-HB.out.cell (bL i2)]at i2;rw[<-HB.out.cell (bL i3)]at i3;simp only[]at i0 i1 i2 i3;have HE:=h3 e1 (hv.keep HB.out lR) hfl;clear hc1 hx hv e1 hfl;go_wp2_with fail
     refine(LM v f q wr HE.out.2.2 HE.out.2.1 q0 (by omega)).mono ?_;rintro e u ⟨r,rfl,hr,hbu⟩;have HB2:Hid (Below w.heap.size w u):=HB.out.trans (hbu.mono HB.out.size);clear hbu HB i0 i1 i2 i3;rcases hr with rfl|⟨r0,r1,hsm⟩
     ·go_wp2
      go_ret
      exact⟨-1,rfl,.inl rfl,HB2.out⟩
     ·have HS:Hid f.small:=hsm
      clear hsm;go_wp2
      go_roundw
      case rel=>
       refine⟨k+1,r,by omega,rfl,by go_num,by omega,by omega,?_,HB2.out⟩;intro y hy;obtain⟨hlt',hf'⟩:=gI.1 HE.out.1;rw[List.take_succ_eq_append_getElem hlt',hf']at hy;rcases List.mem_append.1 hy with hy|hy
       ·exact HQ.out y hy
       ·simp only[List.mem_singleton]at hy
        subst hy;exact HS.out
      case measure=>simp[intOf];omega
   ·have hkn:k=n:=by omega
    subst hkn
    have HA:Hid (∀f∈fs,f.small):=by
     have:=HQ.out;rw[<-HL.out,List.take_length]at this;exact this
    clear HQ;go_wp2
    go_ret
    exact⟨q,rfl,.inr ⟨q0,q1,by omega,HA.out⟩,HB.out⟩
structure MP.fits(p:MP):Prop where
 regions:p.regions.length<=9223372036854775807
 region:∀r∈p.regions,r.length<=9223372036854775807
 consts:p.consts.length<=9223372036854775807
 funcs:p.funcs.length<=9223372036854775807
 func:∀f∈p.funcs,f.fits
 certs:p.certs.length<=9223372036854775807
theorem EM{left:Int}{n:Nat}(h0:0<=left)(h1:left<=1048576):FU left n=-1\/0<=FU left n/\FU left n<=left/\(n:Int)<=left:=by
 unfold FU;by_cases h:left-n<0
 ·rw[if_pos h];exact .inl rfl
 ·rw[if_neg h];exact .inr ⟨by omega,by omega,by omega⟩
structure Po(w u:World)(tp:TypeId)(p:List Value):Prop where
 par:u.ownsRow w.heap.size tp 4 (.slice (some ⟨w.heap.size,0,none⟩) 1 1) 1 p
 bel:Below w.heap.size w u
theorem Po.of(w:World)(tp:TypeId)(p:Array Value)(hp:p.size=4):Po w (w.alloc (.cells p tp)) tp p.toList:=
 ⟨World.ownsRow_lit (base:=w.heap.size) (e:=tp) (size:=4) w p 1 lR (by unfold maxLen;omega) (by omega),(Below.refl _ _).alloc lR _⟩
theorem Po.keep{w u u':World}{tp:TypeId}{p:List Value}(h:Po w u tp p)(hb:Below u.heap.size u u'):Po w u' tp p:=
 ⟨Ag h.par hb lR,h.bel.trans (hb.mono h.bel.size)⟩
theorem IM(v:VP)(p:MP)(left:Int)(w:World)(hf:p.fits)(h:Cx w v p)(h0:0<=left)(h1:left<=1048576):
 Calls Tryz.prog 5 #[.agg #[v.r,v.k,v.f,v.t],.int .i64 left] w fun e w'=>∃r:Int,e=.returned (.int .i64 r)/\(r=-1\/0<=r/\r<=left/\p.small)/\Below w.heap.size w w':=by
 obtain⟨a2,c2,e2⟩:=h.consts.is_slice;obtain⟨a4,c4,e4⟩:=h.certs.is_slice;obtain⟨vr,vk,vf,vt⟩:=v;simp only[]at e2 e4;subst e2;subst e4;have F0:=Po.of w 27 #[vr,.slice a2 p.consts.length c2,vf,.slice a4 p.certs.length c4] rfl;have HF:Hid p.fits:=hf;clear hf;go_enter Tryz.func5,Tryz.ntmps5;go_wp2_with fail
 refine(ID vr p.regions left _ HF.out.regions HF.out.region (h.regions.keep F0.bel lR) h0 h1).mono ?_;rintro e u1 ⟨r1,rfl,hr,rfl⟩;rcases hr with rfl|⟨r10,r11,r12,r13⟩
 ·go_wp2
  go_ret
  exact⟨-1,rfl,.inl rfl,F0.bel⟩
 have HR:=AS r13;clear r13;obtain⟨p0,p1,p2,p3,_⟩:=Dm F0.par;go_wp2_with fail
 refine(Ju a2 p.consts.length c2 r1 _ HF.out.consts r10 (by omega)).mono ?_;rintro e u2 ⟨rfl,rfl⟩;have hz:=EM (n:=p.consts.length) r10 (by omega);generalize FU r1 p.consts.length=r2 at hz;rcases hz with rfl|⟨r20,r21,r22⟩
 ·go_wp2
  go_ret
  exact⟨-1,rfl,.inl rfl,F0.bel⟩
 go_wp2_with fail
 refine(Lh vf p.funcs r2 _ HF.out.funcs HF.out.func (h.funcs.keep F0.bel lR) r20 (by omega)).mono ?_;rintro e u3 ⟨r3,rfl,hr,b3⟩;have F3:=F0.keep b3;clear b3 p0 p1 p2 p3;rcases hr with rfl|⟨r30,r31,r32,r33⟩
 ·go_wp2
  go_ret
  exact⟨-1,rfl,.inl rfl,F3.bel⟩
 have HS:Hid (∀f∈p.funcs,f.small):=r33;clear r33;obtain⟨p0,p1,p2,p3,_⟩:=Dm F3.par;go_wp2_with fail
 refine(KG a4 p.certs.length c4 r3 _ HF.out.certs r30 (by omega)).mono ?_;rintro e u4 ⟨rfl,rfl⟩;have hz:=EM (n:=p.certs.length) r30 (by omega);generalize FU r3 p.certs.length=r4 at hz;rcases hz with rfl|⟨r40,r41,r42⟩
 ·go_wp2
  go_ret
  exact⟨-1,rfl,.inl rfl,F3.bel⟩
 go_wp2
 go_ret
 refine⟨r4,rfl,.inr ⟨r40,by omega,⟨by omega,fun f hf=> ?_,by omega,by omega,HS.out,by omega⟩⟩,F3.bel⟩;have:=HR.out f hf;omega
section
variable {H:Type} {enc:TypeId×Value->H} {P:Program} {w:World} {spare:Nat->Bool} {held:Bool}
theorem CW(b off:Nat)(i:Nat):(⟨b,off,none⟩:Addr).add i=⟨b,off+i,none⟩:=by unfold Addr.add;split<;>simp_all
theorem Du{α:Type}[Inhabited α](f:α->List Value)(G:α->Prop)(m:Nat)(hf:∀y,(f y).length=m)(h0:0<m){t e:TypeId}(ht:P.underlying t=some (.slice e))(hm:P.cellsOf e=m)
 (hel:∀fuel cs x,DataW.trod enc P w 0 spare held fuel e cs=some x->∃y,cs=f y/\G y) {fuel:Nat} {cs:List Value} {x:DataW H×List MemPlace} (h:DataW.trod enc P w 0 spare held fuel t cs=some x):
 ∃(s:Value) (ys:List α),cs=[s]/\Rd w m s ys.length (ys.flatMap f)/\ys.length<=maxLen/\∀y∈ys,G y:=by
 rcases DataW.trod_slice ht h with⟨rfl,_⟩|⟨a,len,cap,elems,rest,n,_,rfl,_,_,hl,hmx,hlen,hE,_,_⟩
 ·exact⟨_,[],rfl,⟨by simp,.inl ⟨rfl,_,_,rfl⟩⟩,by simp,fun y hy=>by cases hy⟩
 ·rw [hm]at hE
  have hy:∀i,i<len->∃y,w.cells? 0 (a.add (i*m)) m=some (f y)/\G y:=by
   intro i hi;have h1:=hE i hi;rw[gE (by omega)]at h1;obtain⟨cs',hc,hx⟩:=Option.bind_eq_some_iff.1 h1;obtain⟨y,rfl,hg⟩:=hel _ _ _ hx;exact⟨y,hc,hg⟩
  obtain⟨F,hF⟩:=Go.Deep.choose_lt hy;refine⟨_,(List.range len).map F,rfl,⟨?_,?_⟩,by simp;omega,?_⟩
  ·rw[Az f m hf]
  ·by_cases hz:len=0
   ·subst hz
    exact .inl ⟨by simp,_,_,rfl⟩
   ·obtain⟨b,off,spot⟩:=a
    have hc0:=(World.cells?_some (hF 0 (by omega)).1).2.2 0 h0;have hfl:0<(f (F 0)).length:=by rw[hf];exact h0
    rw[gE hfl]at hc0;have hspot:spot=none:=by simpa[Addr.add]using World.cell?_spot hc0
    subst hspot;refine .inr ⟨b,off,cap,by simp,fun j u hj=> ?_⟩
    have hjl:j<len*m:=by
     have:=(gI.1 hj).1;rw[Az f m hf]at this;simpa using this
    have hq:j / m<len:=(Nat.div_lt_iff_lt_mul h0).2 hjl;have hr:=Nat.mod_lt j h0;have ej:j=j / m*m+j % m:=by rw[Nat.mul_comm];exact(Nat.div_add_mod j m).symm
    have hk:((List.range len).map F)[j / m]?=some (F (j / m)):=by simp[hq]
    have hcell:=(World.cells?_some (hF (j / m) hq).1).2.2 (j % m) hr;have hat:=AF f m hf _ (j / m) (j % m) _ hk hr;rw[<-ej,hj]at hat;rw[CW,CW,Nat.add_assoc,<-ej]at hcell;rw[hcell,<-hat]
  ·intro y hy'
   obtain⟨i,hi,rfl⟩:=List.mem_map.1 hy';exact(hF i (List.mem_range.1 hi)).2
end
instance:Inhabited MI:=⟨⟨0,0,0,0⟩⟩
instance:Inhabited MC:=⟨⟨0,0⟩⟩
instance:Inhabited MT:=⟨⟨0,0,0,0⟩⟩
instance:Inhabited MF:=⟨⟨[],0,[],[]⟩⟩
instance:Inhabited VF:=⟨⟨.bool true,.bool true,.bool true⟩⟩
def Dr(z:Int):Prop:=(Lit.int .i64 z).wf=true
def Ka(z:Int):Prop:=(Lit.int .u32 z).wf=true
def MI.wf(x:MI):Prop:=Dr x.op/\Dr x.a/\Dr x.b/\Dr x.c
def MC.wf(x:MC):Prop:=Dr x.type/\Ka x.word
def MT.wf(x:MT):Prop:=Dr x.func/\Dr x.head/\Dr x.counter/\Ka x.init
structure MF.wf(f:MF):Prop where
 params:∀z∈f.params,Dr z
 result:Dr f.result
 locals:∀z∈f.locals,Dr z
 code:∀x∈f.code,x.wf
structure MP.wf(p:MP):Prop where
 regions:∀r∈p.regions,∀z∈r,Dr z
 consts:∀x∈p.consts,x.wf
 funcs:∀f∈p.funcs,f.wf
 certs:∀x∈p.certs,x.wf
theorem Gh:Tryz.prog.cellsOf 2=1:=by kernel_rfl
theorem JG:Tryz.prog.cellsOf 126=1:=by kernel_rfl
theorem Kf:Tryz.prog.cellsOf 113=1:=by kernel_rfl
theorem M5:Tryz.prog.cellsOf 22=1:=by kernel_rfl
theorem Ml:Tryz.prog.cellsOf 222=4:=by kernel_rfl
theorem Mj:Tryz.prog.cellsOf 145=2:=by kernel_rfl
theorem Mf:Tryz.prog.cellsOf 150=4:=by kernel_rfl
theorem Mn:Tryz.prog.cellsOf 117=4:=by kernel_rfl
theorem OA:Tryz.prog.cellsOf 27=4:=by kernel_rfl
theorem OV:Tryz.prog.cellsOf 115=1:=by kernel_rfl
theorem Ol:Tryz.prog.cellsOf 23=1:=by kernel_rfl
theorem OS:Tryz.prog.cellsOf 25=1:=by kernel_rfl
theorem OU:Tryz.prog.cellsOf 24=1:=by kernel_rfl
section
variable {H:Type} {enc:TypeId×Value->H} {w:World} {spare:Nat->Bool} {held:Bool} {fuel:Nat} {cs:List Value} {x:DataW H×List MemPlace}
theorem Pc{cs:List Value}(h:cs.length=4):∃a b c d,cs=[a,b,c,d]:=by
 match cs,h with
 |[a,b,c,d],_=>exact⟨a,b,c,d,rfl⟩
theorem two{cs:List Value}(h:cs.length=2):∃a b,cs=[a,b]:=by
 match cs,h with
 |[a,b],_=>exact⟨a,b,rfl⟩
theorem CG(h:DataW.trod enc Tryz.prog w 0 spare held fuel 2 cs=some x):∃z,cs=Ae z/\Dr z:=by
 obtain⟨n,h1,_,h2⟩:=DataW.trod_int Tryz.underlying2 h;exact⟨n,h1,h2⟩
theorem Ie(h:DataW.trod enc Tryz.prog w 0 spare held fuel 126 cs=some x):∃z,cs=[.int .u32 z]/\Ka z:=by
 obtain⟨n,h1,_,h2⟩:=DataW.trod_int Tryz.underlying126 h;exact⟨n,h1,h2⟩
theorem LF(h:DataW.trod enc Tryz.prog w 0 spare held fuel 222 cs=some x):∃y:MI,cs=y.cells/\y.wf:=by
 obtain⟨y0,y1,y2,y3,n,_,hl,g0,g1,g2,g3⟩:=Go.Joins.trod_struct4 Tryz.underlying222 h;rw[Ml]at hl;obtain⟨a,b,c,d,rfl⟩:=Pc hl;simp only[Gh,List.drop_zero,List.drop_succ_cons,List.take_succ_cons,List.take_zero]at g0 g1 g2 g3;obtain⟨z0,e0,w0⟩:=CG g0;obtain⟨z1,e1,w1⟩:=CG g1;obtain⟨z2,e2,w2⟩:=CG g2;obtain⟨z3,e3,w3⟩:=CG g3;simp only[Ae,List.cons.injEq,and_true]at e0 e1 e2 e3;subst e0 e1 e2 e3;exact⟨⟨z0,z1,z2,z3⟩,rfl,w0,w1,w2,w3⟩
theorem MD(h:DataW.trod enc Tryz.prog w 0 spare held fuel 150 cs=some x):∃y:MT,cs=y.cells/\y.wf:=by
 obtain⟨y0,y1,y2,y3,n,_,hl,g0,g1,g2,g3⟩:=Go.Joins.trod_struct4 Tryz.underlying150 h;rw[Mf]at hl;obtain⟨a,b,c,d,rfl⟩:=Pc hl;simp only[Gh,JG,List.drop_zero,List.drop_succ_cons,List.take_succ_cons,List.take_zero]at g0 g1 g2 g3;obtain⟨z0,e0,w0⟩:=CG g0;obtain⟨z1,e1,w1⟩:=CG g1;obtain⟨z2,e2,w2⟩:=CG g2;obtain⟨z3,e3,w3⟩:=Ie g3;simp only[Ae,List.cons.injEq,and_true]at e0 e1 e2 e3;subst e0 e1 e2 e3;exact⟨⟨z0,z1,z2,z3⟩,rfl,w0,w1,w2,w3⟩
theorem L1(h:DataW.trod enc Tryz.prog w 0 spare held fuel 145 cs=some x):∃y:MC,cs=y.cells/\y.wf:=by
 obtain⟨y0,y1,n,_,hl,g0,g1⟩:=trod_struct2 Tryz.underlying145 h;rw[Mj]at hl;obtain⟨a,b,rfl⟩:=two hl;simp only[Gh,JG,List.drop_zero,List.drop_succ_cons,List.take_succ_cons,List.take_zero]at g0 g1;obtain⟨z0,e0,w0⟩:=CG g0;obtain⟨z1,e1,w1⟩:=Ie g1;simp only[Ae,List.cons.injEq,and_true]at e0 e1;subst e0 e1;exact⟨⟨z0,z1⟩,rfl,w0,w1⟩
theorem Ft(h:DataW.trod enc Tryz.prog w 0 spare held fuel 113 cs=some x):∃y:List Int×Value,cs=Cu y/\Rd w 1 y.2 y.1.length (y.1.flatMap Ae)/\y.1.length<=maxLen/\∀z∈y.1,Dr z:=by
 obtain⟨s,ys,e,h1,h2,h3⟩:=Du Ae Dr 1 An (by omega) Tryz.underlying113 Gh (fun _ _ _=>CG) h;exact⟨(ys,s),e,h1,h2,h3⟩
theorem MY(h:DataW.trod enc Tryz.prog w 0 spare held fuel 117 cs=some x):∃y:MF×VF,cs=BK y/\CP w y.2 y.1/\y.1.fits/\y.1.wf:=by
 obtain⟨y0,y1,y2,y3,n,_,hl,g0,g1,g2,g3⟩:=Go.Joins.trod_struct4 Tryz.underlying117 h;rw[Mn]at hl;obtain⟨a,b,c,d,rfl⟩:=Pc hl;simp only[Gh,Kf,OV,List.drop_zero,List.drop_succ_cons,List.take_succ_cons,List.take_zero]at g0 g1 g2 g3;obtain⟨⟨l0,s0⟩,e0,w0,m0,k0⟩:=Ft g0;obtain⟨z1,e1,w1⟩:=CG g1;obtain⟨⟨l2,s2⟩,e2,w2,m2,k2⟩:=Ft g2;obtain⟨s3,l3,e3,w3,m3,k3⟩:=Du MI.cells MI.wf 4 MI.cells_length (by omega) Tryz.underlying115 Ml (fun _ _ _=>LF) g3;simp only[Ae,Cu,List.cons.injEq,and_true]at e0 e1 e2 e3;subst e0 e1 e2 e3;exact⟨(⟨l0,z1,l2,l3⟩,⟨a,c,d⟩),rfl,⟨w0,w2,w3⟩,⟨by simp[maxLen]at m0;exact m0,by simp[maxLen]at m2;exact m2,by simp[maxLen]at m3;exact m3⟩,⟨k0,w1,k2,k3⟩⟩
theorem Jn(h:DataW.trod enc Tryz.prog w 0 spare held fuel 27 cs=some x):∃(p:MP) (v:VP),cs=[v.r,v.k,v.f,v.t]/\Cx w v p/\p.fits/\p.wf:=by
 obtain⟨y0,y1,y2,y3,n,_,hl,g0,g1,g2,g3⟩:=Go.Joins.trod_struct4 Tryz.underlying27 h;rw[OA]at hl;obtain⟨a,b,c,d,rfl⟩:=Pc hl;simp only[M5,Ol,OU,OS,List.drop_zero,List.drop_succ_cons,List.take_succ_cons,List.take_zero]at g0 g1 g2 g3;obtain⟨s0,l0,e0,w0,m0,k0⟩:=Du Cu (fun y=>Rd w 1 y.2 y.1.length (y.1.flatMap Ae)/\y.1.length<=maxLen/\∀z∈y.1,Dr z) 1 AO (by omega) Tryz.underlying22 Kf (fun _ _ _=>Ft) g0
 obtain⟨s1,l1,e1,w1,m1,k1⟩:=Du MC.cells MC.wf 2 MC.cells_length (by omega) Tryz.underlying23 Mj (fun _ _ _=>L1) g1;obtain⟨s2,l2,e2,w2,m2,k2⟩:=Du BK (fun y=>CP w y.2 y.1/\y.1.fits/\y.1.wf) 4 Ai (by omega) Tryz.underlying24 Mn (fun _ _ _=>MY) g2
 obtain⟨s3,l3,e3,w3,m3,k3⟩:=Du MT.cells MT.wf 4 MT.cells_length (by omega) Tryz.underlying25 Mf (fun _ _ _=>MD) g3;simp only[List.cons.injEq,and_true]at e0 e1 e2 e3;subst e0 e1 e2 e3;have hm:∀n:Nat,n<=maxLen->n<=9223372036854775807:=fun n h=>by simp[maxLen]at h;exact h
 refine⟨⟨l0.map Prod.fst,l1,l2.map Prod.fst,l3⟩,⟨a,b,c,d⟩,rfl,⟨⟨l0,rfl,by simpa using w0,fun y hy=>(k0 y hy).1⟩,w1,⟨l2,rfl,by simpa using w2,fun y hy=>(k2 y hy).1⟩,w3⟩,⟨by simpa using hm _ m0,?_,hm _ m1,by simpa using hm _ m2,?_,hm _ m3⟩,⟨?_,k1,?_,k3⟩⟩
 ·intro r hr
  obtain⟨y,hy,rfl⟩:=List.mem_map.1 hr;exact hm _ (k0 y hy).2.1
 ·intro r hr
  obtain⟨y,hy,rfl⟩:=List.mem_map.1 hr;exact(k2 y hy).2.1
 ·intro r hr
  obtain⟨y,hy,rfl⟩:=List.mem_map.1 hr;exact(k0 y hy).2.2
 ·intro r hr
  obtain⟨y,hy,rfl⟩:=List.mem_map.1 hr;exact(k2 y hy).2.2
end
def Bs(z:Int):List Value:=[.int .u32 z]
theorem Bx(z:Int):(Bs z).length=1:=rfl
theorem PW:(Tryz.prog.info? 126).map (fun i=>(i.zero,i.size,i.bytes))=some (some (.int .u32 0),1,4):=by kernel_rfl
theorem IB(s:Value)(L:Nat)(ys:List Int)(w:World)(hL:L<=1048576)(h:Rd w 1 s L (ys.flatMap Bs))(hlen:ys.length=L):
 Calls Tryz.prog 64 #[s] w fun e w'=>e=.returned (.slice (some ⟨w.heap.size,0,none⟩) L L)/\w'.ownsRow w.heap.size 126 1 (.slice (some ⟨w.heap.size,0,none⟩) L L) L (ys.flatMap Bs)/\Below w.heap.size w w':=by
 obtain⟨i0,hi,hz0,hz1,hz2⟩:=info_parts PW;have H1:=h2 h hlen;obtain⟨a1,c1,rfl⟩:=h.is_slice;clear h hlen;go_enter Tryz.func64,Tryz.ntmps64;go_wp2_with (at_make;refine wpList_make_full _ rfl _ _ 53 rfl w.heap.size 126 i0 (.int .u32 0) 1 Tryz.underlying53 hi hz0 hz1 .i64 .i64 _ _ L rfl rfl rfl rfl (by rw[hz2];omega) (by unfold maxLen;omega) lR ?_;intro w1 hown hgrow);rw[Cv Bs [.int .u32 0] ys L (.int .u32 0) 1 rfl rfl (by omega)]at hown;have hB:Below w.heap.size w w1:=(Below.refl _ _).grown hgrow lR (fun k hk=>by cases hk);clear hgrow;go_loopw [4] (fun i wr=>∃k:Nat,k<=L/\i=.int .i64 k/\wr.ownsRow w.heap.size 126 1 (.slice (some ⟨w.heap.size,0,none⟩) L L) L (CK Bs [.int .u32 0] ys k L)/\Below w.heap.size w wr) (fun i _=>L-(intOf i).toNat)
 case atStart=>exact⟨0,by omega,rfl,hown,hB⟩
 case round=>
  clear hown hB;obtain⟨k,hk,rfl,hown,hbel⟩:=hrel;by_cases hlt:k<L
  ·obtain⟨x,hx⟩:∃x,ys[k]?=some x:=⟨_,gE (by rw[H1.out.2];exact hlt)⟩
   have hnext:=CN Bs [.int .u32 0] ys k L x hx;rw[Cw Bs [.int .u32 0] ys k L hlt]at hown;have hA:((ys.take k).flatMap Bs).length=k*1:=by rw[Az Bs 1 Bx,List.length_take,H1.out.2,Nat.min_eq_left hk]
   generalize (ys.take k).flatMap Bs=A at hown hnext hA;generalize (List.replicate (L-(k+1)) [Value.int .u32 0]).flatten=R at hown hnext;rcases H1.out.1.2 with⟨e0,_⟩|⟨g,o,c,e1,hc1⟩
   ·omega
   ·simp only[sJ,true_and]at e1
    obtain⟨rfl,rfl⟩:=e1;have i0:=Rd.elem Bx hc1 k x hx 0 _ rfl;rw[<-hbel.cell (bL i0)]at i0;rw[Nat.mul_one,Nat.add_zero]at i0;have f0:=hown.frozenAt k;have d0:=hown.cellAt k (by omega);rw[Nat.mul_one]at hA;rw[List.getElem?_append_right (by omega),hA,Nat.sub_self]at d0;have HO:=h3 hown hA hnext;clear hown hA hnext hc1 hx;simp only[List.cons_append,gZ]at d0;go_wp2
    go_roundw
    case rel=>
     refine⟨k+1,by omega,by go_num,?_,hbel.setCell lR _⟩;have hst:=(HO.out.1.stored k (.int .u32 x)).1;rw[PA A R _ _ k HO.out.2.1]at hst;rw[HO.out.2.2];exact hst
    case measure=>simp[intOf];omega
  ·have hkn:k=L:=by omega
   subst hkn;rw[Dc _ _ _ _ H1.out.2]at hown;have HO:=AS hown;clear hown;go_wp2
   go_ret
   exact⟨rfl,HO.out,hbel⟩
theorem EF(s:Value)(ys:List Int)(w:World)(hL:ys.length<=1048576)(h:Rd w 1 s ys.length (ys.flatMap Bs)):
 Calls Tryz.prog 64 #[s] w fun e w'=>∃a c,e=.returned (.slice a ys.length c)/\w'.ownsRow w.heap.size 126 1 (.slice a ys.length c) ys.length (ys.flatMap Bs)/\Below w.heap.size w w':=
 (IB s ys.length ys w hL h rfl).mono fun e w' h=>⟨_,_,h.1,h.2.1,h.2.2⟩
theorem DS(s s':Value)(ys:List Int)(w:World)(hn:ys.length<=140737488355328)(h:Rd w 1 s ys.length (ys.flatMap Bs))(h':Rd w 1 s' ys.length (ys.flatMap Bs)):
 Calls Tryz.prog 66 #[s,s'] w fun e w'=>e=.returned (.bool true)/\∃m,w'=w.drewN m:=by
 have H1:=AS h;have H2:=AS h';obtain⟨a1,c1,rfl⟩:=h.is_slice;obtain⟨a2,c2,rfl⟩:=h'.is_slice;clear h h';generalize hLL:ys.length=n at hn H1 H2;have HL:Hid (ys.length=n):=hLL;clear hLL;go_enter Tryz.func66,Tryz.ntmps66;go_wp2
 go_loopw [5] (fun i wr=>∃k:Nat,k<=n/\i=.int .i64 k/\∃m,wr=w.drewN m) (fun i _=>n-(intOf i).toNat)
 case atStart=>exact⟨0,by omega,rfl,0,rfl⟩
 case round=>
  obtain⟨k,hk,rfl,m,rfl⟩:=hrel;by_cases hlt:k<n
  ·obtain⟨x,hx⟩:∃x,ys[k]?=some x:=⟨_,gE (by rw[HL.out];exact hlt)⟩
   rcases H1.out.2 with⟨e0,_⟩|⟨g,o,c,e1,hc1⟩
   ·omega
   ·rcases H2.out.2 with⟨e0,_⟩|⟨g',o',c',e2,hc2⟩
    ·omega
    ·simp only[sJ,true_and]at e1 e2
     obtain⟨rfl,rfl⟩:=e1;obtain⟨rfl,rfl⟩:=e2;have i0:=Rd.elem Bx hc1 k x hx 0 _ rfl;have j0:=Rd.elem Bx hc2 k x hx 0 _ rfl;rw[Nat.mul_one,Nat.add_zero]at i0 j0;clear hc1 hc2 hx;go_wp2
     go_quiet (fail)
     go_wp2
     go_roundw
     case rel=>exact⟨k+1,by omega,by go_num,_,rfl⟩
     case measure=>simp[intOf];omega
  ·go_wp2
   go_ret
   exact⟨rfl,_,rfl⟩
theorem EG(a:Option Addr)(n c:Nat)(left:Int)(w:World)(hn:n<=9223372036854775807)(h0:0<=left)(h1:left<=1048576):
 Calls Tryz.prog 62 #[.slice a n c,.int .i64 left] w fun e w'=>e=.returned (.int .i64 (FU left n))/\w'=w:=by
 by_cases hb:left-n<0
 ·have e:FU left n=-1:=if_pos hb
  rw[e];go_enter Tryz.func62,Tryz.ntmps62;go_wp2
  go_ret
  exact⟨rfl,rfl⟩
 ·have e:FU left n=left-n:=if_neg hb
  rw[e];go_enter Tryz.func62,Tryz.ntmps62;go_wp2
  go_ret
  exact⟨rfl,rfl⟩
structure Ni(k:Nat)(w u:World)(tp tr:TypeId)(p r o:List Value):Prop where
 par:u.ownsRow w.heap.size tp k (.slice (some ⟨w.heap.size,0,none⟩) 1 1) 1 p
 res:u.ownsRow w.heap.size tr k (.slice (some ⟨w.heap.size+1,0,none⟩) 1 1) 1 r
 loc:u.ownsRow w.heap.size tr k (.slice (some ⟨w.heap.size+1+1,0,none⟩) 1 1) 1 o
 bel:Below w.heap.size w u
 siz:w.heap.size+3<=u.heap.size
theorem Ni.of(k:Nat)(w:World)(tp tr:TypeId)(p r o:Array Value)(hp:p.size=k)(hr:r.size=k)(ho:o.size=k):
 Ni k w (((w.alloc (.cells p tp)).alloc (.cells r tr)).alloc (.cells o tr)) tp tr p.toList r.toList o.toList:=by
 have b1:Below w.heap.size w (w.alloc (.cells p tp)):=(Below.refl _ _).alloc lR _;have c2:Below (w.alloc (.cells p tp)).heap.size (w.alloc (.cells p tp)) ((w.alloc (.cells p tp)).alloc (.cells r tr)):=(Below.refl _ _).alloc lR _;have c3:Below ((w.alloc (.cells p tp)).alloc (.cells r tr)).heap.size ((w.alloc (.cells p tp)).alloc (.cells r tr)) (((w.alloc (.cells p tp)).alloc (.cells r tr)).alloc (.cells o tr)):=(Below.refl _ _).alloc lR _;have r1:=World.ownsRow_lit (base:=w.heap.size) (e:=tp) (size:=k) w p 1 lR (by unfold maxLen;omega) (by omega);have r2:=World.ownsRow_lit (base:=w.heap.size) (e:=tr) (size:=k) (w.alloc (.cells p tp)) r 1 (by simp) (by unfold maxLen;omega) (by omega);have r3:=World.ownsRow_lit (base:=w.heap.size) (e:=tr) (size:=k) ((w.alloc (.cells p tp)).alloc (.cells r tr)) o 1 (by simp<;>omega) (by unfold maxLen;omega) (by omega);refine⟨Ag (Ag r1 c2 lR) c3 lR,?_,?_,(b1.trans (c2.mono (by simp))).trans (c3.mono (by simp<;>omega)),by simp<;>omega⟩
 ·have:=Ag r2 c3 lR
  simpa using this
 ·simpa using r3
theorem Ni.keep{k:Nat}{w u u':World}{tp tr:TypeId}{p r o:List Value}(h:Ni k w u tp tr p r o)(hb:Below u.heap.size u u'):Ni k w u' tp tr p r o:=
 ⟨Ag h.par hb lR,Ag h.res hb lR,Ag h.loc hb lR,h.bel.trans (hb.mono (by have:=h.siz;omega)),Nat.le_trans h.siz hb.size⟩
theorem Ni.set{k:Nat}{w u:World}{tp tr:TypeId}{p r o:List Value}(h:Ni k w u tp tr p r o)(j:Nat)(x:Value):Ni k w (u.setCell ⟨w.heap.size+1+1,j,none⟩ x) tp tr p r (o.set j x):=
 ⟨ownsRow_setCell_other h.par (by simp[Value.ownBlock]<;>omega) x,ownsRow_setCell_other h.res (by simp[Value.ownBlock]) x,(h.loc.stored j x).1,h.bel.setCell (by simp<;>omega) x,by have:=h.siz;simpa using this⟩
theorem Ni.set'{k:Nat}{w u:World}{tp tr:TypeId}{p r o:List Value}(h:Ni k w u tp tr p r o)(j:Nat)(x:Value):Ni k w (u.setCell ⟨w.heap.size+1,j,none⟩ x) tp tr p (r.set j x) o:=
 ⟨ownsRow_setCell_other h.par (by simp[Value.ownBlock]<;>omega) x,(h.res.stored j x).1,ownsRow_setCell_other h.loc (by simp[Value.ownBlock]) x,h.bel.setCell (by simp) x,by have:=h.siz;simpa using this⟩
theorem Ln{α:Type}(q:α->Bool)(ys:List α)(k:Nat)(x:α)(hx:ys[k]?=some x)(h:(ys.take k).all q=true):(ys.take (k+1)).all q=q x:=by
 obtain⟨hlt,rfl⟩:=gI.1 hx;rw[List.take_succ_eq_append_getElem hlt,List.all_append,h];simp
theorem Mc{α:Type}(q:α->Bool)(ys:List α)(x:α)(hx:x∈ys)(h:q x=false):ys.all q=false:=by
 rw[List.all_eq_false];exact⟨x,hx,by simp[h]⟩
theorem Fq(s:Value)(ys:List Int)(w:World)(hn:ys.length<=1048576)(h:Rd w 1 s ys.length (ys.flatMap Ae)):
 Calls Tryz.prog 117 #[s] w fun e w'=>e=.returned (.bool (ys.all CE))/\w'=w:=by
 have H1:=AS h;obtain⟨a1,c1,rfl⟩:=h.is_slice;clear h;generalize hLL:ys.length=n at hn H1;have HL:Hid (ys.length=n):=hLL;clear hLL;generalize hR:ys.all CE=R;have HR:Hid (ys.all CE=R):=hR;clear hR;go_enter Tryz.func117,Tryz.ntmps117;go_wp2
 go_loopw [3] (fun i wr=>∃k:Nat,k<=n/\i=.int .i64 k/\Hid ((ys.take k).all CE=true)/\wr=w) (fun i _=>n-(intOf i).toNat)
 case atStart=>exact⟨0,by omega,rfl,by simp[Hid],rfl⟩
 case round=>
  obtain⟨k,hk,rfl,HT,rfl⟩:=hrel;by_cases hlt:k<n
  ·obtain⟨x,hx⟩:∃x,ys[k]?=some x:=⟨_,gE (by rw[HL.out];exact hlt)⟩
   rcases H1.out.2 with⟨e0,_⟩|⟨g,o,c,e1,hc1⟩
   ·omega
   ·simp only[sJ,true_and]at e1
    obtain⟨rfl,rfl⟩:=e1;have i0:=Rd.elem An hc1 k x hx 0 _ rfl;rw[Nat.mul_one,Nat.add_zero]at i0;have HX:Hid (ys[k]?=some x):=hx;clear hc1 hx;go_wp2_with fail
    refine(BH x wr).mono ?_;rintro e u ⟨rfl,rfl⟩;cases hq:CE x with
    | false=>
     have hR:R=false:=by
      rw[<-HR.out];exact Mc _ _ _ (mG HX.out) hq
     subst hR;clear hq;go_wp2
     go_ret
     exact⟨rfl,rfl⟩
    | true=>
     have HN:Hid ((ys.take (k+1)).all CE=true):=by
      show _=_;rw[Ln _ _ _ _ HX.out HT.out];exact hq
     clear hq;go_wp2
     go_roundw
     case rel=>exact⟨k+1,by omega,by go_num,HN,by trivial⟩
     case measure=>simp[intOf];omega
  ·have hkn:k=n:=by omega
   subst hkn
   have hR:R=true:=by
    rw[<-HR.out,<-HT.out,<-HL.out,List.take_length]
   subst hR;go_wp2
   go_ret
   exact⟨rfl,rfl⟩
def Ar(e:Ending)(q:Prop):Prop:=∃b,e=.returned (.bool b)/\(b=true↔q)
theorem Ar.yes{q:Prop}(h:q):Ar (.returned (.bool true)) q:=⟨_,rfl,by simp[h]⟩
theorem Ar.no{q:Prop}(h:¬q):Ar (.returned (.bool false)) q:=⟨_,rfl,by simp[h]⟩
theorem Ar.of{q:Prop}{b:Bool}(h:b=true↔q):Ar (.returned (.bool b)) q:=⟨_,rfl,h⟩
structure CY(w:World)(b:Nat)(x y z t:Value):Prop where
 c0:w.cell? ⟨b,0,none⟩=some x
 c1:w.cell? ⟨b,1,none⟩=some y
 c2:w.cell? ⟨b,2,none⟩=some z
 c3:w.cell? ⟨b,3,none⟩=some t
theorem CY.lt{w:World}{b:Nat}{x y z t:Value}(h:CY w b x y z t):b<w.heap.size:=bL h.c0
theorem CY.keep{w w':World}{b:Nat}{x y z t:Value}(h:CY w b x y z t)(hb:Below w.heap.size w w'):CY w' b x y z t:=
 ⟨by rw[hb.cell h.lt];exact h.c0,by rw[hb.cell h.lt];exact h.c1,by rw[hb.cell h.lt];exact h.c2,by rw[hb.cell h.lt];exact h.c3⟩
theorem CY.new(w:World)(x y z t:Value)(ty:TypeId):CY (w.alloc (.cells #[x,y,z,t] ty)) w.heap.size x y z t:=by
 have h:=World.ownsRow_lit (base:=w.heap.size) (e:=ty) (size:=4) w #[x,y,z,t] 1 (Nat.le_refl _) (by unfold maxLen;omega) (by simp);exact⟨h.cellAt 0 (by omega),h.cellAt 1 (by omega),h.cellAt 2 (by omega),h.cellAt 3 (by omega)⟩
theorem CY.alloc{w:World}{b:Nat}{x y z t:Value}(h:CY w b x y z t)(o:Obj):CY (w.alloc o) b x y z t:=h.keep ((Below.refl _ _).alloc (Nat.le_refl _) _)
theorem Aa(w:World)(o:Obj):Below w.heap.size w (w.alloc o):=(Below.refl _ _).alloc (Nat.le_refl _) _
theorem Ad(w:World):Below w.heap.size w w.drew:=⟨rfl,rfl,rfl,Nat.le_refl _,fun _ _=>rfl⟩
theorem Ab{B:Nat}{w u u':World}(h:Below B w u)(hB:B<=w.heap.size)(h':Below u.heap.size u u'):Below B w u':=h.trans (h'.mono (Nat.le_trans hB h.size))
end Go.Proofs.YtlejplpkomddeaaGreat
