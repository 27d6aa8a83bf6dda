import Derived.Test.YtlejplpkomddeaaGreatG0
import Derived.Test.YtlejplpkomddeaaGreatG6
import Derived.Test.YtlejplpkomddeaaGreatG7
import Derived.Test.YtlejplpkomddeaaGreatG4
namespace Go.Proofs.YtlejplpkomddeaaGreat
open Go.ChangeShapes Go.WideShapes Go.ChangeAt Go.RowKit
set_option linter.unusedVariables false
set_option maxHeartbeats 4000000
set_option maxRecDepth 100000
theorem JJ(v v':Value)(f:MG)(w:World)(hs:f.small)(h:Ju w v f)(h':Ju w v' f):
  Calls Tryz.prog 102 #[.agg #[.int .i64 f.func,.int .i64 f.at_,.int .i64 f.base,v],.agg #[.int .i64 f.func,.int .i64 f.at_,.int .i64 f.base,v']] w fun e w'=>e=.returned (.bool true)/\Below w.heap.size w w':=by
 have F0:=OM.of w 123 #[.int .i64 f.func,.int .i64 f.at_,.int .i64 f.base,v] #[.int .i64 f.func,.int .i64 f.at_,.int .i64 f.base,v'] rfl rfl;have H:=h3 h h' hs;clear h h' hs;go_enter Tryz.func102,Tryz.ntmps102;go_wp2_with fail
 refine(Ei v v' f.locals _ H.out.2.2 (H.out.1.keep F0.bel lR) (H.out.2.1.keep F0.bel lR)).mono ?_;rintro e u1 ⟨rfl,b1⟩;have F1:=F0.keep b1;clear b1 F0;go_wp2
 go_ret
 exact⟨rfl,F1.bel⟩
theorem Io(s s':Value)(fs:List MG)(w:World)(hL:fs.length<=1048576)(hs:∀f∈fs,f.small)(h:Jn w s fs)(h':Jn w s' fs):
  Calls Tryz.prog 47 #[s,s'] w fun e w'=>e=.returned (.bool true)/\Below w.heap.size w w':=by
 obtain⟨xs,hxs,hrd,hel⟩:=h;obtain⟨xs',hxs',hrd',hel'⟩:=h';have hxl:xs.length=fs.length:=by rw[<-hxs];simp
 have hxl':xs'.length=fs.length:=by rw[<-hxs'];simp
 have H1:=h5 hrd hxs hel hs hxl;have H2:=h5 hrd' hxs' hel' hs hxl';obtain⟨a1,c1,rfl⟩:=hrd.is_slice;obtain⟨a2,c2,rfl⟩:=hrd'.is_slice;clear hrd hxs hel hs hxl hrd' hxs' hel' hxl';generalize hLL:fs.length=n at hL H1 H2;clear hLL;go_enter Tryz.func47,Tryz.ntmps47;go_wp2
 go_loopw [5] (fun i wr=>∃k:Nat,k<=n/\i=.int .i64 k/\Below w.heap.size w wr) (fun i _=>n-(intOf i).toNat)
 case atStart=>exact⟨0,by omega,rfl,Below.refl _ _⟩
 case round=>
  obtain⟨k,hk,rfl,hbel⟩:=hrel;have HB:Hid (Below w.heap.size w wr):=hbel;clear hbel;by_cases hlt:k<n
  ·obtain⟨⟨f,v⟩,hx⟩:∃x,xs[k]?=some x:=⟨_,gE (by rw[H1.out.2.2.2.2];exact hlt)⟩
   obtain⟨⟨f',v'⟩,hx'⟩:∃x,xs'[k]?=some x:=⟨_,gE (by rw[H2.out.2.2.2.2];exact hlt)⟩;have e1:=AO H1.out.2.1 hx;have e2:=AO H2.out.2.1 hx'
   have hff:f'=f:=by
    rw[e1]at e2;exact(Option.some.inj e2).symm
   subst hff;have HX:Hid (Ju wr v f'/\Ju wr v' f'/\f'.small):=⟨(H1.out.2.2.1 _ (mG hx)).keep HB.out lR,(H2.out.2.2.1 _ (mG hx')).keep HB.out lR,H1.out.2.2.2.1 _ (mG e1)⟩
   clear e1 e2;rcases H1.out.1.2 with⟨e0,_⟩|⟨g,o,c,e1,hc1⟩
   ·omega
   ·rcases H2.out.1.2 with⟨e0,_⟩|⟨g',o',c',e2,hc2⟩
    ·omega
    ·simp only[sJ,true_and]at e1 e2
     obtain⟨rfl,rfl⟩:=e1;obtain⟨rfl,rfl⟩:=e2;have i0:=Rd.elem Al hc1 k _ hx 0 _ rfl;have i1:=Rd.elem Al hc1 k _ hx 1 _ rfl;have i2:=Rd.elem Al hc1 k _ hx 2 _ rfl;have i3:=Rd.elem Al hc1 k _ hx 3 _ rfl;have j0:=Rd.elem Al hc2 k _ hx' 0 _ rfl;have j1:=Rd.elem Al hc2 k _ hx' 1 _ rfl;have j2:=Rd.elem Al hc2 k _ hx' 2 _ rfl;have j3:=Rd.elem Al hc2 k _ hx' 3 _ rfl;rw[<-HB.out.cell (bL i0),Nat.add_zero]at i0;rw[<-HB.out.cell (bL i1)]at i1;rw[<-HB.out.cell (bL i2)]at i2;rw[<-HB.out.cell (bL i3)]at i3;rw[<-HB.out.cell (bL j0),Nat.add_zero]at j0;rw[<-HB.out.cell (bL j1)]at j1;rw[<-HB.out.cell (bL j2)]at j2;rw[<-HB.out.cell (bL j3)]at j3;clear hc1 hc2 hx hx';simp only[]at i0 i1 i2 i3 j0 j1 j2 j3;go_wp2_with fail
     go_region_with (go_at_call 102;refine(JJ v v' f' _ HX.out.2.2 (by exact HX.out.1) (by exact HX.out.2.1)).mono ?_;rintro e u ⟨rfl,hbu⟩)
     all_goals
      have HB2:Hid (Below w.heap.size w u):=HB.out.trans (Ar hbu HB.out.size);clear hbu HB i0 i1 i2 i3 j0 j1 j2 j3;go_wp2
      go_roundw
      case rel=>exact⟨k+1,by omega,by go_num,HB2.out⟩
      case measure=>simp[intOf];omega
  ·go_wp2
   go_ret
   exact⟨rfl,HB.out⟩
theorem Ks(v:Value)(f:MG)(left:Int)(w:World)(hf:f.fits)(h:Ju w v f)(h0:0<=left)(h1:left<=1048576):
  Calls Tryz.prog 70 #[.agg #[.int .i64 f.func,.int .i64 f.at_,.int .i64 f.base,v],.int .i64 left] w fun e w'=>∃r:Int,e=.returned (.int .i64 r)/\(r=-1\/0<=r/\r<=left/\f.small)/\Below w.heap.size w w':=by
 obtain⟨a1,c1,e1⟩:=h.is_slice;rw[e1];have HB:Hid (Below w.heap.size w (w.alloc (.cells #[.int .i64 f.func,.int .i64 f.at_,.int .i64 f.base,.slice a1 f.locals.length c1] 120))):=(Below.refl _ _).alloc lR _;clear h e1;unfold MG.fits at hf;go_enter Tryz.func70,Tryz.ntmps70;go_wp2_with fail
 refine(DA a1 f.locals.length c1 left _ hf h0 h1).mono ?_;rintro e u2 ⟨rfl,rfl⟩;have hz:=Fv (n:=f.locals.length) h0 h1;generalize Fx left f.locals.length=r1 at hz;rcases hz with rfl|⟨r10,r11,r12⟩
 ·go_wp2
  go_ret
  exact⟨-1,rfl,.inl rfl,HB.out⟩
 go_wp2
 go_ret
 exact⟨r1,rfl,.inr ⟨r10,by omega,by unfold MG.small;omega⟩,HB.out⟩
theorem JB(s:Value)(fs:List MG)(left:Int)(w:World)(hL:fs.length<=9223372036854775807)(hs:∀f∈fs,f.fits)(h:Jn w s fs)(h0:0<=left)(h1:left<=1048576):
  Calls Tryz.prog 28 #[s,.int .i64 left] w fun e w'=>∃r:Int,e=.returned (.int .i64 r)/\(r=-1\/0<=r/\r<=left/\(fs.length:Int)<=left/\∀f∈fs,f.small)/\Below w.heap.size w w':=by
 obtain⟨xs,hxs,hrd,hel⟩:=h;have hxl:xs.length=fs.length:=by rw[<-hxs];simp
 have H1:=h5 hrd hxs hel hs hxl;obtain⟨a1,c1,rfl⟩:=hrd.is_slice;clear hrd hxs hel hs hxl;generalize hLL:fs.length=n at hL H1⊢;have HL:Hid (fs.length=n):=hLL;clear hLL;by_cases hb:left-n<0
 ·go_enter Tryz.func28,Tryz.ntmps28
  go_wp2
  go_ret
  exact⟨-1,rfl,.inl rfl,Below.refl _ _⟩
 ·go_enter Tryz.func28,Tryz.ntmps28
  go_wp2
  go_loopw [1,5] (fun l i wr=>∃(k:Nat) (q:Int),k<=n/\l=.int .i64 q/\i=.int .i64 k/\0<=q/\q<=left/\Hid (∀f∈fs.take k,f.small)/\Below w.heap.size w wr) (fun _ i _=>n-(intOf i).toNat)
  case atStart=>exact⟨0,left-n,by omega,rfl,rfl,by omega,by omega,(fun f hf=>by simp at hf),Below.refl _ _⟩
  case round=>
   obtain⟨k,q,hk,rfl,rfl,q0,q1,HQ,hbel⟩:=hrel;have HB:Hid (Below w.heap.size w wr):=hbel;clear hbel;by_cases hlt:k<n
   ·obtain⟨⟨f,v⟩,hx⟩:∃x,xs[k]?=some x:=⟨_,gE (by rw[H1.out.2.2.2.2];exact hlt)⟩
    have e1:=AO H1.out.2.1 hx;have hv:=H1.out.2.2.1 _ (mG hx);have hfl:=H1.out.2.2.2.1 _ (mG e1);simp only[]at hv hfl e1;rcases H1.out.1.2 with⟨e0,_⟩|⟨g,o,c,e2,hc1⟩
    ·omega
    ·simp only[sJ,true_and]at e2
     obtain⟨rfl,rfl⟩:=e2;have i0:=Rd.elem Al hc1 k _ hx 0 _ rfl;have i1:=Rd.elem Al hc1 k _ hx 1 _ rfl;have i2:=Rd.elem Al hc1 k _ hx 2 _ rfl;have i3:=Rd.elem Al hc1 k _ hx 3 _ rfl;rw[<-HB.out.cell (bL i0),Nat.add_zero]at i0;rw[<-HB.out.cell (bL i1)]at i1;rw[<-HB.out.cell (bL i2)]at i2;rw[<-HB.out.cell (bL i3)]at i3;simp only[]at i0 i1 i2 i3;have HE:=h3 e1 (hv.keep HB.out lR) hfl;clear hc1 hx hv e1 hfl;go_wp2_with fail
     refine(Ks v f q wr HE.out.2.2 HE.out.2.1 q0 (by omega)).mono ?_;rintro e u ⟨r,rfl,hr,hbu⟩;have HB2:Hid (Below w.heap.size w u):=HB.out.trans (hbu.mono HB.out.size);clear hbu HB i0 i1 i2 i3;rcases hr with rfl|⟨r0,r1,hsm⟩
     ·go_wp2
      go_ret
      exact⟨-1,rfl,.inl rfl,HB2.out⟩
     ·have HS:Hid f.small:=hsm
      clear hsm;go_wp2
      go_roundw
      case rel=>
       refine⟨k+1,r,by omega,rfl,by go_num,by omega,by omega,?_,HB2.out⟩;intro y hy;obtain⟨hlt',hf'⟩:=gI.1 HE.out.1;rw[List.take_succ_eq_append_getElem hlt',hf']at hy;rcases List.mem_append.1 hy with hy|hy
       ·exact HQ.out y hy
       ·simp only[List.mem_singleton]at hy
        subst hy;exact HS.out
      case measure=>simp[intOf];omega
   ·have hkn:k=n:=by omega
    subst hkn
    have HA:Hid (∀f∈fs,f.small):=by
     have:=HQ.out;rw[<-HL.out,List.take_length]at this;exact this
    clear HQ;go_wp2
    go_ret
    exact⟨q,rfl,.inr ⟨q0,q1,by omega,HA.out⟩,HB.out⟩
theorem Hl(s:Value)(cs:List MC)(w:World)(hn:cs.length<=1048576)(hw:∀x∈cs,0<=x.word)(h:Rd w 2 s cs.length (cs.flatMap MC.cells)):
  Calls Tryz.prog 93 #[s] w fun e w'=>Ao e (cs.length<=64/\CO cs)/\Below w.heap.size w w':=by
 have H1:=h2 h hw;obtain⟨a1,c1,rfl⟩:=h.is_slice;clear h hw;generalize hLL:cs.length=n at hn H1⊢;have HL:Hid (cs.length=n):=hLL;clear hLL;by_cases hg:64<n
 ·have HN:Hid (¬(n<=64/\CO cs)):=fun e=>by have:=e.1;omega
  go_enter Tryz.func93,Tryz.ntmps93;go_wp2
  go_ret
  exact⟨.no HN.out,Below.refl _ _⟩
 go_enter Tryz.func93,Tryz.ntmps93;go_wp2
 go_loopw [10] (fun i wr=>∃k:Nat,k<=n/\i=.int .i64 k/\Hid (∀j,j<k->∀c,cs[j]?=some c->Bi c)/\Hid (Below w.heap.size w wr)) (fun i _=>n-(intOf i).toNat)
 case atStart=>exact⟨0,by omega,rfl,fun j hj=>by omega,Below.refl _ _⟩
 case round=>
  obtain⟨k,hk,rfl,HT,HW⟩:=hrel;by_cases hlt:k<n
  ·obtain⟨x,hx⟩:∃x,cs[k]?=some x:=⟨_,gE (by rw[HL.out];exact hlt)⟩
   rcases H1.out.1.2 with⟨e0,_⟩|⟨b,o,c,e1,hc1⟩
   ·omega
   ·simp only[sJ,true_and]at e1
    obtain⟨rfl,rfl⟩:=e1;have i0:=Rd.elem MC.cells_length hc1 k x hx 0 _ rfl;have i1:=Rd.elem MC.cells_length hc1 k x hx 1 _ rfl;rw[<-HW.out.cell (bL i0),Nat.add_zero]at i0;rw[<-HW.out.cell (bL i1)]at i1;have HX:Hid (x∈cs/\cs[k]?=some x):=⟨mG hx,hx⟩
    clear hc1 hx;have nb:¬b=wr.heap.size:=Nat.ne_of_lt (bL i0);have mb:b<wr.heap.size:=bL i0;go_wp2_with fail
    refine(Fg x.type x.word _ (H1.out.2 x HX.out.1)).mono ?_;rintro e u ⟨⟨b1,rfl,hb1⟩,blu⟩;have HW2:Hid (Below w.heap.size w u):=Ac (Ac HW.out lR (Aa _ _)) lR blu;clear i0 i1 nb mb blu;cases b1
    ·have HN:Hid (¬(n<=64/\CO cs)):=fun e=>absurd (hb1.2 (e.2 x HX.out.1)) Bool.false_ne_true
     clear hb1;go_wp2
     go_ret
     exact⟨.no HN.out,HW2.out⟩
    ·have HC:Hid (Bi x):=hb1.1 rfl
     clear hb1;go_wp2
     go_roundw
     case rel=>exact⟨k+1,by omega,by go_num,BK HX.out.2 HC.out HT.out,HW2⟩
     case measure=>simp[intOf];omega
  ·have hkn:n=k:=by omega
   subst hkn;have HY:Hid (n<=64/\CO cs):=⟨by omega,GE (by rw[HL.out];exact HT.out)⟩
   go_wp2
   go_ret
   exact⟨.yes HY.out,HW.out⟩
def A5(fs:List MF):Prop:=¬fs.length=0/\fs.length<=32/\(∀j,j<fs.length->∀f,fs[j]?=some f->Ch f)/\∀f,fs[0]?=some f->L1 f
theorem In(s:Value)(fs:List MF)(w:World)(hL:fs.length<=1048576)(hs:∀f∈fs,f.small)(h:FN w s fs):
  Calls Tryz.prog 129 #[s] w fun e w'=>Ao e (A5 fs)/\Below w.heap.size w w':=by
 obtain⟨xs,hxs,hrd,hel⟩:=h;have hxl:xs.length=fs.length:=by rw[<-hxs];simp
 have H1:=h5 hrd hxs hel hs hxl;obtain⟨a1,c1,rfl⟩:=hrd.is_slice;clear hrd hxs hel hs hxl;generalize hLL:fs.length=n at hL H1;have HL:Hid (fs.length=n):=hLL;clear hLL;by_cases q0:n=0
 ·subst q0
  have HN:Hid (¬A5 fs):=fun e=>e.1 HL.out
  clear H1;go_enter Tryz.func129,Tryz.ntmps129;go_wp2
  go_ret
  exact⟨.no HN.out,Below.refl _ _⟩
 have q0':((n:Int)==0)=false:=by simpa using q0
 by_cases q1:32<n
 ·have HN:Hid (¬A5 fs):=fun e=>absurd e.2.1 (by rw[HL.out];omega)
  have q1':(32:Int)<(n:Int):=by omega
  clear H1;go_enter Tryz.func129,Tryz.ntmps129;go_wp2
  go_ret
  exact⟨.no HN.out,Below.refl _ _⟩
 have q1':¬(32:Int)<(n:Int):=by omega
 go_enter Tryz.func129,Tryz.ntmps129;go_wp2
 go_loopw [15] (fun i wr=>∃k:Nat,k<=n/\i=.int .i64 k/\Hid (∀j,j<k->∀f,fs[j]?=some f->Ch f)/\Hid (Below w.heap.size w wr)) (fun i _=>n-(intOf i).toNat)
 case atStart=>exact⟨0,by omega,rfl,fun j hj=>by omega,Below.refl _ _⟩
 case round=>
  obtain⟨k,hk,rfl,HT,HB⟩:=hrel;by_cases hlt:k<n
  ·obtain⟨⟨f,v⟩,hx⟩:∃x,xs[k]?=some x:=⟨_,gE (by rw[H1.out.2.2.2.2];exact hlt)⟩
   have e1:=AO H1.out.2.1 hx;have HX:Hid (CK wr v f/\f.small/\fs[k]?=some f):=⟨(H1.out.2.2.1 _ (mG hx)).keep HB.out lR,H1.out.2.2.2.1 _ (mG e1),e1⟩
   clear e1;rcases H1.out.1.2 with⟨e0,_⟩|⟨b,o,c,e1,hc1⟩
   ·omega
   ·simp only[sJ,true_and]at e1
    obtain⟨rfl,rfl⟩:=e1;have i0:=Rd.elem Ah hc1 k _ hx 0 _ rfl;have i1:=Rd.elem Ah hc1 k _ hx 1 _ rfl;have i2:=Rd.elem Ah hc1 k _ hx 2 _ rfl;have i3:=Rd.elem Ah hc1 k _ hx 3 _ rfl;rw[<-HB.out.cell (bL i0),Nat.add_zero]at i0;rw[<-HB.out.cell (bL i1)]at i1;rw[<-HB.out.cell (bL i2)]at i2;rw[<-HB.out.cell (bL i3)]at i3;clear hc1 hx;simp only[]at i0 i1 i2 i3;obtain⟨ap,cp,ep⟩:=HX.out.1.1.is_slice;obtain⟨al,cl,el⟩:=HX.out.1.2.1.is_slice;obtain⟨ac,cc,ec⟩:=HX.out.1.2.2.is_slice;obtain⟨vp,vl,vc⟩:=v;simp only[]at ep el ec i0 i1 i2 i3;subst ep el ec;have nb:¬b=wr.heap.size:=Nat.ne_of_lt (bL i0);have mb:b<wr.heap.size:=bL i0;go_wp2_with fail
    have A1:=fun W (hW:Below wr.heap.size wr W)=>H7 ⟨.slice ap f.params.length cp,.slice al f.locals.length cl,.slice ac f.code.length cc⟩ f W HX.out.2.1 (HX.out.1.keep hW lR)
    refine(A1 _ (Aa _ _)).mono ?_;rintro e u ⟨⟨b0,rfl,hb0⟩,hbu⟩;have HB2:Hid (Below w.heap.size w u):=Ac HB.out lR (Ac (Aa _ _) lR hbu);clear hbu HB i0 i1 i2 i3 A1 nb mb;cases b0
    ·have HN:Hid (¬A5 fs):=fun e=>by have:=e.2.2.1 k (by rw[HL.out];exact hlt) f HX.out.2.2;simp[this]at hb0
     clear hb0;go_wp2
     go_ret
     exact⟨.no HN.out,HB2.out⟩
    ·have HC:=AM (hb0.1 rfl)
     clear hb0;go_wp2
     go_roundw
     case rel=>exact⟨k+1,by omega,by go_num,BK HX.out.2.2 HC.out HT.out,HB2⟩
     case measure=>simp[intOf];omega
  ·have hkn:n=k:=by omega
   subst hkn;obtain⟨⟨f,v⟩,hx⟩:∃x,xs[0]?=some x:=⟨_,gE (by rw[H1.out.2.2.2.2];omega)⟩;have e1:=AO H1.out.2.1 hx;have HX:Hid (CK wr v f/\f.small/\fs[0]?=some f):=⟨(H1.out.2.2.1 _ (mG hx)).keep HB.out lR,H1.out.2.2.2.1 _ (mG e1),e1⟩
   clear e1;rcases H1.out.1.2 with⟨e0,_⟩|⟨b,o,c,e1,hc1⟩
   ·omega
   ·simp only[sJ,true_and]at e1
    obtain⟨rfl,rfl⟩:=e1;have i0:=Rd.elem Ah hc1 0 _ hx 0 _ rfl;have i1:=Rd.elem Ah hc1 0 _ hx 1 _ rfl;rw[<-HB.out.cell (bL i0)]at i0;simp only[Nat.zero_mul,Nat.add_zero]at i0;rw[<-HB.out.cell (bL i1),Nat.zero_mul,Nat.add_zero]at i1;clear hc1 hx;obtain⟨ap,cp,ep⟩:=HX.out.1.1.is_slice;obtain⟨vp,vl,vc⟩:=v;simp only[]at ep i0 i1;subst ep
    have HM:Hid (A5 fs↔L1 f):=by
     show _↔_;refine⟨fun e=>e.2.2.2 f HX.out.2.2,fun e=>⟨by rw[HL.out];exact q0,by rw[HL.out];omega,by rw[HL.out];exact HT.out,fun g hg=> ?_⟩⟩;rw[HX.out.2.2]at hg;exact(Option.some.inj hg)▸e
    have hn1:=HX.out.2.1.1;generalize hN1:f.params.length=n1 at*;generalize hN2:f.result=R at*;have HE:=h2 hN1 hN2;clear hN1 hN2;have hl0:(0:Int)<(n:Int):=by omega
    by_cases z1:n1=0
    ·subst z1
     have HY:Hid ((R==0)=true↔A5 fs):=by
      show _↔_;rw[HM.out,beq_iff_eq];exact⟨fun e=>⟨HE.out.1,HE.out.2.trans e⟩,fun e=>HE.out.2.symm.trans e.2⟩
     go_wp2
     go_ret
     exact⟨.of HY.out,HB.out⟩
    ·have z1':((n1:Int)==0)=false:=by simpa using z1
     have HN:Hid (¬A5 fs):=fun e=>z1 (HE.out.1.symm.trans (HM.out.1 e).1)
     go_wp2
     go_ret
     exact⟨.no HN.out,HB.out⟩
def Cw(q:MC->Int->Prop)(vs:List MC)(ts:List Int):Prop:=vs.length=ts.length/\∀j,j<vs.length->∀v,vs[j]?=some v->∀t,ts[j]?=some t->q v t
theorem KY(q:MC->Int->Prop)(hF:∀(x:MC) (t:Int) (w:World),0<=x.word->Calls Tryz.prog 132 #[.agg #[.int .i64 x.type,.int .u32 x.word],.int .i64 t] w fun e w'=>Ao e (q x t)/\Below w.heap.size w w')
  (s s':Value) (vs:List MC) (ts:List Int) (w:World) (hL:vs.length<=1048576) (hL':ts.length<=1048576) (hw:∀x∈vs,0<=x.word) (h:Rd w 2 s vs.length (vs.flatMap MC.cells)) (h':Rd w 1 s' ts.length (ts.flatMap Af)):
  Calls Tryz.prog 134 #[s,s',.func (.func 132) #[] #[]] w fun e w'=>Ao e (Cw q vs ts)/\Below w.heap.size w w':=by
 have H1:=h2 h hw;have H2:=AM h';have HF:=AM hF;obtain⟨a1,c1,rfl⟩:=h.is_slice;obtain⟨a2,c2,rfl⟩:=h'.is_slice;clear h h' hw hF;by_cases hll:vs.length=ts.length
 ·rw [← hll]at H2⊢
  clear hL';generalize hLL:vs.length=n at hL H1 H2 hll;have HL:=h2 hLL hll.symm;clear hLL hll;go_enter Tryz.func134,Tryz.ntmps134;go_wp2
  go_loopw [17] (fun i wr=>∃k:Nat,k<=n/\i=.int .i64 k/\Hid (∀j,j<k->∀v,vs[j]?=some v->∀t,ts[j]?=some t->q v t)/\Hid (Below w.heap.size w wr)) (fun i _=>n-(intOf i).toNat)
  case atStart=>exact⟨0,by omega,rfl,fun j hj=>by omega,Below.refl _ _⟩
  case round=>
   obtain⟨k,hk,rfl,HT,HB⟩:=hrel;by_cases hlt:k<n
   ·obtain⟨x,hx⟩:∃x,vs[k]?=some x:=⟨_,gE (by rw[HL.out.1];exact hlt)⟩
    obtain⟨t,ht⟩:∃x,ts[k]?=some x:=⟨_,gE (by rw[HL.out.2];exact hlt)⟩;rcases H1.out.1.2 with⟨e0,_⟩|⟨b,o,c,e1,hc1⟩
    ·omega
    ·rcases H2.out.2 with⟨e0,_⟩|⟨b',o',c',e2,hc2⟩
     ·omega
     ·simp only[sJ,true_and]at e1 e2
      obtain⟨rfl,rfl⟩:=e1;obtain⟨rfl,rfl⟩:=e2;have i0:=Rd.elem MC.cells_length hc1 k _ hx 0 _ rfl;have i1:=Rd.elem MC.cells_length hc1 k _ hx 1 _ rfl;have j0:=Rd.elem Ap hc2 k _ ht 0 _ rfl;rw[<-HB.out.cell (bL i0),Nat.add_zero]at i0;rw[<-HB.out.cell (bL i1)]at i1;rw[<-HB.out.cell (bL j0),Nat.mul_one,Nat.add_zero]at j0;have HX:Hid (x∈vs/\vs[k]?=some x/\ts[k]?=some t):=⟨mG hx,hx,ht⟩
      have nb:¬b=wr.heap.size:=Nat.ne_of_lt (bL i0);have mb:b<wr.heap.size:=bL i0;have nb':¬b'=wr.heap.size:=Nat.ne_of_lt (bL j0);have mb':b'<wr.heap.size:=bL j0;clear hc1 hc2 hx ht;go_wp2_with fail
      refine(HF.out x t _ (H1.out.2 x HX.out.1)).mono ?_;rintro e u ⟨⟨b0,rfl,hb0⟩,hbu⟩;have HB2:Hid (Below w.heap.size w u):=Ac (Ac HB.out lR (Aa _ _)) lR hbu;clear hbu HB i0 i1 j0 nb mb nb' mb';cases b0
      ·have HN:Hid (¬Cw q vs ts):=fun e=>absurd (hb0.2 (e.2 k (by rw[HL.out.1];exact hlt) x HX.out.2.1 t HX.out.2.2)) Bool.false_ne_true
       clear hb0;go_wp2
       go_ret
       exact⟨.no HN.out,HB2.out⟩
      ·have HC:Hid (q x t):=hb0.1 rfl
       clear hb0
       have HT2:Hid (∀j,j<k+1->∀v,vs[j]?=some v->∀t,ts[j]?=some t->q v t):=fun j hj v hv t' ht'=>by
        by_cases e:j=k
        ·subst e
         rw[HX.out.2.1]at hv;rw[HX.out.2.2]at ht';obtain rfl:=Option.some.inj hv;obtain rfl:=Option.some.inj ht';exact HC.out
        ·exact HT.out j (by omega) v hv t' ht'
       go_wp2
       go_roundw
       case rel=>exact⟨k+1,by omega,by go_num,HT2,HB2⟩
       case measure=>simp[intOf];omega
   ·have hkn:n=k:=by omega
    subst hkn;have HY:Hid (Cw q vs ts):=⟨by rw[HL.out.1,HL.out.2],by rw[HL.out.1];exact HT.out⟩;go_wp2;go_ret;exact⟨.yes HY.out,HB.out⟩
 ·have HN:Hid (¬Cw q vs ts):=fun e=>hll e.1
  have hne:¬(vs.length:Int)=(ts.length:Int):=by omega
  go_enter Tryz.func134,Tryz.ntmps134;go_wp2
  go_ret
  exact⟨.no HN.out,Below.refl _ _⟩
theorem GC(q:MC->Int->Prop)(hF:∀(x:MC) (t:Int) (w:World),0<=x.word->Calls Tryz.prog 171 #[.agg #[.int .i64 x.type,.int .u32 x.word],.int .i64 t] w fun e w'=>Ao e (q x t)/\Below w.heap.size w w')
  (s s':Value) (vs:List MC) (ts:List Int) (w:World) (hL:vs.length<=1048576) (hL':ts.length<=1048576) (hw:∀x∈vs,0<=x.word) (h:Rd w 2 s vs.length (vs.flatMap MC.cells)) (h':Rd w 1 s' ts.length (ts.flatMap Af)):
  Calls Tryz.prog 134 #[s,s',.func (.func 171) #[] #[]] w fun e w'=>Ao e (Cw q vs ts)/\Below w.heap.size w w':=by
 have H1:=h2 h hw;have H2:=AM h';have HF:=AM hF;obtain⟨a1,c1,rfl⟩:=h.is_slice;obtain⟨a2,c2,rfl⟩:=h'.is_slice;clear h h' hw hF;by_cases hll:vs.length=ts.length
 ·rw [← hll]at H2⊢
  clear hL';generalize hLL:vs.length=n at hL H1 H2 hll;have HL:=h2 hLL hll.symm;clear hLL hll;go_enter Tryz.func134,Tryz.ntmps134;go_wp2
  go_loopw [17] (fun i wr=>∃k:Nat,k<=n/\i=.int .i64 k/\Hid (∀j,j<k->∀v,vs[j]?=some v->∀t,ts[j]?=some t->q v t)/\Hid (Below w.heap.size w wr)) (fun i _=>n-(intOf i).toNat)
  case atStart=>exact⟨0,by omega,rfl,fun j hj=>by omega,Below.refl _ _⟩
  case round=>
   obtain⟨k,hk,rfl,HT,HB⟩:=hrel;by_cases hlt:k<n
   ·obtain⟨x,hx⟩:∃x,vs[k]?=some x:=⟨_,gE (by rw[HL.out.1];exact hlt)⟩
    obtain⟨t,ht⟩:∃x,ts[k]?=some x:=⟨_,gE (by rw[HL.out.2];exact hlt)⟩;rcases H1.out.1.2 with⟨e0,_⟩|⟨b,o,c,e1,hc1⟩
    ·omega
    ·rcases H2.out.2 with⟨e0,_⟩|⟨b',o',c',e2,hc2⟩
     ·omega
     ·simp only[sJ,true_and]at e1 e2
      obtain⟨rfl,rfl⟩:=e1;obtain⟨rfl,rfl⟩:=e2;have i0:=Rd.elem MC.cells_length hc1 k _ hx 0 _ rfl;have i1:=Rd.elem MC.cells_length hc1 k _ hx 1 _ rfl;have j0:=Rd.elem Ap hc2 k _ ht 0 _ rfl;rw[<-HB.out.cell (bL i0),Nat.add_zero]at i0;rw[<-HB.out.cell (bL i1)]at i1;rw[<-HB.out.cell (bL j0),Nat.mul_one,Nat.add_zero]at j0;have HX:Hid (x∈vs/\vs[k]?=some x/\ts[k]?=some t):=⟨mG hx,hx,ht⟩
      have nb:¬b=wr.heap.size:=Nat.ne_of_lt (bL i0);have mb:b<wr.heap.size:=bL i0;have nb':¬b'=wr.heap.size:=Nat.ne_of_lt (bL j0);have mb':b'<wr.heap.size:=bL j0;clear hc1 hc2 hx ht;go_wp2_with fail
      refine(HF.out x t _ (H1.out.2 x HX.out.1)).mono ?_;rintro e u ⟨⟨b0,rfl,hb0⟩,hbu⟩;have HB2:Hid (Below w.heap.size w u):=Ac (Ac HB.out lR (Aa _ _)) lR hbu;clear hbu HB i0 i1 j0 nb mb nb' mb';cases b0
      ·have HN:Hid (¬Cw q vs ts):=fun e=>absurd (hb0.2 (e.2 k (by rw[HL.out.1];exact hlt) x HX.out.2.1 t HX.out.2.2)) Bool.false_ne_true
       clear hb0;go_wp2
       go_ret
       exact⟨.no HN.out,HB2.out⟩
      ·have HC:Hid (q x t):=hb0.1 rfl
       clear hb0
       have HT2:Hid (∀j,j<k+1->∀v,vs[j]?=some v->∀t,ts[j]?=some t->q v t):=fun j hj v hv t' ht'=>by
        by_cases e:j=k
        ·subst e
         rw[HX.out.2.1]at hv;rw[HX.out.2.2]at ht';obtain rfl:=Option.some.inj hv;obtain rfl:=Option.some.inj ht';exact HC.out
        ·exact HT.out j (by omega) v hv t' ht'
       go_wp2
       go_roundw
       case rel=>exact⟨k+1,by omega,by go_num,HT2,HB2⟩
       case measure=>simp[intOf];omega
   ·have hkn:n=k:=by omega
    subst hkn;have HY:Hid (Cw q vs ts):=⟨by rw[HL.out.1,HL.out.2],by rw[HL.out.1];exact HT.out⟩;go_wp2;go_ret;exact⟨.yes HY.out,HB.out⟩
 ·have HN:Hid (¬Cw q vs ts):=fun e=>hll e.1
  have hne:¬(vs.length:Int)=(ts.length:Int):=by omega
  go_enter Tryz.func134,Tryz.ntmps134;go_wp2
  go_ret
  exact⟨.no HN.out,Below.refl _ _⟩
theorem LP(x:MC)(t:Int)(w:World)(hx:0<=x.word):Calls Tryz.prog 132 #[.agg #[.int .i64 x.type,.int .u32 x.word],.int .i64 t] w fun e w'=>Ao e (x.type=t/\Bi x)/\Below w.heap.size w w':=by
 by_cases q:x.type=t
 ·subst q
  have B0:Hid (Below w.heap.size w (w.alloc (.cells #[.int .i64 x.type,.int .u32 x.word] 128))):=Aa _ _;go_enter Tryz.func132,Tryz.ntmps132;go_wp2_with fail
  refine(Fg x.type x.word _ hx).mono ?_;rintro e u ⟨⟨b,rfl,hb⟩,blu⟩;have B1:Hid (Below w.heap.size w u/\(b=true↔x.type=x.type/\Bi x)):=⟨Ac B0.out lR blu,by rw[hb];simp⟩
  clear blu hb;go_wp2
  go_ret
  exact⟨.of B1.out.2,B1.out.1⟩
 ·have HN:Hid (¬(x.type=t/\Bi x)):=fun e=>q e.1
  have q':(x.type==t)=false:=by simpa using q
  go_enter Tryz.func132,Tryz.ntmps132;go_wp2
  go_ret
  exact⟨.no HN.out,Aa _ _⟩
def Gz(v:MC)(t:Int):Prop:=v.type=t/\Bi v
theorem Fd(s s':Value)(vs:List MC)(ts:List Int)(w:World)(hL:vs.length<=1048576)(hL':ts.length<=1048576)(hw:∀x∈vs,0<=x.word)(h:Rd w 2 s vs.length (vs.flatMap MC.cells))(h':Rd w 1 s' ts.length (ts.flatMap Af)):
  Calls Tryz.prog 92 #[s,s'] w fun e w'=>Ao e (Cw Gz vs ts)/\Below w.heap.size w w':=by
 have H:=h3 h h' hw;clear h h' hw;go_enter Tryz.func92,Tryz.ntmps92;go_wp2_with fail
 refine(KY Gz (fun x t w hx=>LP x t w hx) s s' vs ts _ hL hL' H.out.2.2 H.out.1 H.out.2.1).mono ?_;rintro e u ⟨⟨b,rfl,hb⟩,blu⟩;have B1:=h2 blu hb;clear blu hb;go_wp2
 go_ret
 exact⟨.of B1.out.2,B1.out.1⟩
structure MS where
 trap:Int
 done:Bool
 cost:Int
 steps:Int
 cells:List (List MC)
 stack:List MC
 frames:List MG
structure VS where
 c:Value
 k:Value
 f:Value
structure Fc(w:World)(v:VS)(s:MS):Prop where
 cells:Ie w v.c s.cells
 stack:Rd w 2 v.k s.stack.length (s.stack.flatMap MC.cells)
 frames:Jn w v.f s.frames
structure Gm(w:World)(base:Nat)(v:VS)(s:MS):Prop where
 cells:Dv w base v.c s.cells
 stack:w.ownsRow base 128 2 v.k s.stack.length (s.stack.flatMap MC.cells)
 frames:EZ w base v.f s.frames
structure MS.small(s:MS):Prop where
 cells:s.cells.length<=1048576
 cell:∀r∈s.cells,r.length<=1048576
 stack:s.stack.length<=1048576
 frames:s.frames.length<=1048576
 frame:∀f∈s.frames,f.small
structure MS.fits(s:MS):Prop where
 cells:s.cells.length<=9223372036854775807
 cell:∀r∈s.cells,r.length<=9223372036854775807
 stack:s.stack.length<=9223372036854775807
 frames:s.frames.length<=9223372036854775807
 frame:∀f∈s.frames,f.fits
structure MG.wf(f:MG):Prop where
 func:Dn f.func
 at_:Dn f.at_
 base:Dn f.base
 locals:∀x∈f.locals,x.wf
structure MS.wf(s:MS):Prop where
 trap:Dn s.trap
 cost:Dn s.cost
 steps:Dn s.steps
 cells:∀r∈s.cells,∀x∈r,x.wf
 stack:∀x∈s.stack,x.wf
 frames:∀f∈s.frames,f.wf
theorem Gm.rd{w:World}{base:Nat}{v:VS}{s:MS}(h:Gm w base v s):Fc w v s:=⟨h.cells.rd,Rd.of_own h.stack,h.frames.rd⟩
theorem Fc.keep{w w':World}{v:VS}{s:MS}(h:Fc w v s){B:Nat}(hb:Below B w w')(hB:w.heap.size<=B):Fc w' v s:=⟨h.cells.keep hb hB,h.stack.keep hb hB,h.frames.keep hb hB⟩
theorem Gm.base{w:World}{base base':Nat}{v:VS}{s:MS}(h:Gm w base v s)(hb:base'<=base):Gm w base' v s:=⟨h.cells.base hb,AA h.stack hb,h.frames.base hb⟩
theorem Gm.below{w:World}{base:Nat}{v:VS}{s:MS}(h:Gm w base v s){a:Addr}(ha:a.block<base)(u:Value):Gm (w.setCell a u) base v s:=⟨h.cells.below ha u,ownsRow_setCell_below h.stack ha u,h.frames.below ha u⟩
theorem GN{w:World}{base:Nat}{e:TypeId}{g:Nat}{a b c d x y z:Value}(h:w.ownsRow base e 7 (.slice (some ⟨g,0,none⟩) 1 1) 1 [a,b,c,d,x,y,z]):
  w.cell? ⟨g,0,none⟩=some a/\w.cell? ⟨g,1,none⟩=some b/\w.cell? ⟨g,2,none⟩=some c/\w.cell? ⟨g,3,none⟩=some d/\w.cell? ⟨g,4,none⟩=some x/\w.cell? ⟨g,5,none⟩=some y/\w.cell? ⟨g,6,none⟩=some z/\w.frozen? ⟨g,0,none⟩=false/\w.frozen? ⟨g,1,none⟩=false/\w.frozen? ⟨g,2,none⟩=false/\w.frozen? ⟨g,3,none⟩=false/\w.frozen? ⟨g,4,none⟩=false/\w.frozen? ⟨g,5,none⟩=false/\w.frozen? ⟨g,6,none⟩=false:=
 ⟨h.cellAt 0 (by omega),h.cellAt 1 (by omega),h.cellAt 2 (by omega),h.cellAt 3 (by omega),h.cellAt 4 (by omega),h.cellAt 5 (by omega),h.cellAt 6 (by omega),h.frozenAt 0,h.frozenAt 1,h.frozenAt 2,h.frozenAt 3,h.frozenAt 4,h.frozenAt 5,h.frozenAt 6⟩
theorem D8(v:VS)(s:MS)(w:World)(hs:s.small)(h:Fc w v s):
  Calls Tryz.prog 9 #[.agg #[.int .i64 s.trap,.bool s.done,.int .i64 s.cost,.int .i64 s.steps,v.c,v.k,v.f]] w fun e w'=>∃a1 c1 a2 c2 a3 c3,e=.returned (.agg #[.int .i64 s.trap,.bool s.done,.int .i64 s.cost,.int .i64 s.steps,.slice a1 s.cells.length c1,.slice a2 s.stack.length c2,.slice a3 s.frames.length c3])/\Gm w' w.heap.size ⟨.slice a1 s.cells.length c1,.slice a2 s.stack.length c2,.slice a3 s.frames.length c3⟩ s/\Below w.heap.size w w':=by
 have F0:=Na.of 7 w 32 39 #[.int .i64 s.trap,.bool s.done,.int .i64 s.cost,.int .i64 s.steps,v.c,v.k,v.f] #[.int .i64 0,.bool false,.int .i64 0,.int .i64 0,.slice none 0 0,.slice none 0 0,.slice none 0 0] #[.int .i64 s.trap,.bool s.done,.int .i64 s.cost,.int .i64 s.steps,.slice none 0 0,.slice none 0 0,.slice none 0 0] rfl rfl rfl;have H:=h2 h hs;clear h hs;go_enter Tryz.func9,Tryz.ntmps9;go_wp2_with fail
 refine(Ip v.c s.cells _ H.out.2.cells H.out.2.cell (H.out.1.cells.keep F0.bel lR)).mono ?_;rintro e u1 ⟨a1,c1,rfl,own1,b1⟩;have O1:=AM (own1.base F0.siz);have F1:=F0.keep b1;clear own1 b1 F0;obtain⟨p0,p1,p2,p3,p4,p5,p6,_⟩:=GN F1.par;obtain⟨o0,o1,o2,o3,o4,o5,o6,z0,z1,z2,z3,z4,z5,z6⟩:=GN F1.loc;go_wp2_with fail
 have F2:=F1.set 4 (.slice a1 s.cells.length c1);have O2:Hid (Dv (u1.setCell ⟨w.heap.size+1+1,4,none⟩ (.slice a1 s.cells.length c1)) (w.heap.size+3) (.slice a1 s.cells.length c1) s.cells):=O1.out.below (by simp) _;clear O1 F1 p0 p1 p2 p3 p4 p5 p6 o0 o1 o2 o3 o4 o5 o6 z0 z1 z2 z3 z4 z5 z6;simp only[List.set_cons_zero,List.set_cons_succ]at F2;refine(Ev v.k s.stack _ H.out.2.stack (H.out.1.stack.keep F2.bel lR)).mono ?_;rintro e u2 ⟨a2,c2,rfl,own2,b2⟩;have O3:Hid (Dv u2 (w.heap.size+3) (.slice a1 s.cells.length c1) s.cells/\u2.ownsRow (w.heap.size+3) 128 2 (.slice a2 s.stack.length c2) s.stack.length (s.stack.flatMap MC.cells)):=⟨O2.out.keep b2 lR,AA own2 F2.siz⟩
 have F3:=F2.keep b2;clear own2 b2 F2 O2;obtain⟨p0,p1,p2,p3,p4,p5,p6,_⟩:=GN F3.par;obtain⟨o0,o1,o2,o3,o4,o5,o6,z0,z1,z2,z3,z4,z5,z6⟩:=GN F3.loc;go_wp2_with fail
 have F4:=F3.set 5 (.slice a2 s.stack.length c2);have O4:Hid _:=And.intro (O3.out.1.below (a:=⟨w.heap.size+1+1,5,none⟩) (by simp) (.slice a2 s.stack.length c2)) (Cc (w:=w) O3.out.2 (w.heap.size+1+1) 5 (by omega) (.slice a2 s.stack.length c2));clear O3 F3 p0 p1 p2 p3 p4 p5 p6 o0 o1 o2 o3 o4 o5 o6 z0 z1 z2 z3 z4 z5 z6;simp only[List.set_cons_zero,List.set_cons_succ]at F4;refine(I5 v.f s.frames _ H.out.2.frames H.out.2.frame (H.out.1.frames.keep F4.bel lR)).mono ?_;rintro e u3 ⟨a3,c3,rfl,own3,b3⟩;have O7:Hid (Gm u3 (w.heap.size+3) ⟨.slice a1 s.cells.length c1,.slice a2 s.stack.length c2,.slice a3 s.frames.length c3⟩ s):=⟨O4.out.1.keep b3 lR,Ai O4.out.2 b3 lR,own3.base F4.siz⟩;have F7:=F4.keep b3;clear own3 b3 F4 O4;obtain⟨p0,p1,p2,p3,p4,p5,p6,_⟩:=GN F7.par;obtain⟨o0,o1,o2,o3,o4,o5,o6,z0,z1,z2,z3,z4,z5,z6⟩:=GN F7.loc;obtain⟨q0,q1,q2,q3,q4,q5,q6,y0,y1,y2,y3,y4,y5,y6⟩:=GN F7.res;go_wp2_with fail
 clear p0 p1 p2 p3 p4 p5 p6 o0 o1 o2 o3 o4 o5 o6 z0 z1 z2 z3 z4 z5 z6 q0 q1 q2 q3 q4 q5 q6 y0 y1 y2 y3 y4 y5 y6;have F8:=(((((((F7.set 6 (.slice a3 s.frames.length c3)).set' 0 (.int .i64 s.trap)).set' 1 (.bool s.done)).set' 2 (.int .i64 s.cost)).set' 3 (.int .i64 s.steps)).set' 4 (.slice a1 s.cells.length c1)).set' 5 (.slice a2 s.stack.length c2)).set' 6 (.slice a3 s.frames.length c3);simp only[List.set_cons_zero,List.set_cons_succ]at F8;obtain⟨q0,q1,q2,q3,q4,q5,q6,_⟩:=GN F8.res;have hall:=(((((((O7.out.below (a:=⟨w.heap.size+1+1,6,none⟩) (by simp) (.slice a3 s.frames.length c3)).below (a:=⟨w.heap.size+1,0,none⟩) (by simp<;>omega) (.int .i64 s.trap)).below (a:=⟨w.heap.size+1,1,none⟩) (by simp<;>omega) (.bool s.done)).below (a:=⟨w.heap.size+1,2,none⟩) (by simp<;>omega) (.int .i64 s.cost)).below (a:=⟨w.heap.size+1,3,none⟩) (by simp<;>omega) (.int .i64 s.steps)).below (a:=⟨w.heap.size+1,4,none⟩) (by simp<;>omega) (.slice a1 s.cells.length c1)).below (a:=⟨w.heap.size+1,5,none⟩) (by simp<;>omega) (.slice a2 s.stack.length c2)).below (a:=⟨w.heap.size+1,6,none⟩) (by simp<;>omega) (.slice a3 s.frames.length c3)
 exact bodyPost_ret (v:=.agg #[.int .i64 s.trap,.bool s.done,.int .i64 s.cost,.int .i64 s.steps,.slice a1 s.cells.length c1,.slice a2 s.stack.length c2,.slice a3 s.frames.length c3]) (by simp[results,Tryz.results9,go_sem,q0,q1,q2,q3,q4,q5,q6]) rfl ⟨a1,c1,a2,c2,a3,c3,rfl,hall.base (by omega),F8.bel⟩
structure MH(k:Nat)(w u:World)(tp:TypeId)(p r:List Value):Prop where
 par:u.ownsRow w.heap.size tp k (.slice (some ⟨w.heap.size,0,none⟩) 1 1) 1 p
 par':u.ownsRow w.heap.size tp k (.slice (some ⟨w.heap.size+1,0,none⟩) 1 1) 1 r
 bel:Below w.heap.size w u
theorem MH.of(k:Nat)(w:World)(tp:TypeId)(p r:Array Value)(hp:p.size=k)(hr:r.size=k):
  MH k w ((w.alloc (.cells p tp)).alloc (.cells r tp)) tp p.toList r.toList:=by
 have b1:Below w.heap.size w (w.alloc (.cells p tp)):=(Below.refl _ _).alloc lR _;have c2:Below (w.alloc (.cells p tp)).heap.size (w.alloc (.cells p tp)) ((w.alloc (.cells p tp)).alloc (.cells r tp)):=(Below.refl _ _).alloc lR _;have r1:=World.ownsRow_lit (base:=w.heap.size) (e:=tp) (size:=k) w p 1 lR (by unfold maxLen;omega) (by omega);have r2:=World.ownsRow_lit (base:=w.heap.size) (e:=tp) (size:=k) (w.alloc (.cells p tp)) r 1 (by simp) (by unfold maxLen;omega) (by omega);refine⟨Ai r1 c2 lR,?_,b1.trans (c2.mono (by simp))⟩;simpa using r2
theorem MH.keep{k:Nat}{w u u':World}{tp:TypeId}{p r:List Value}(h:MH k w u tp p r)(hb:Below u.heap.size u u'):MH k w u' tp p r:=
 ⟨Ai h.par hb lR,Ai h.par' hb lR,h.bel.trans (hb.mono h.bel.size)⟩
theorem Dx(v v':VS)(s:MS)(w:World)(hs:s.small)(h:Fc w v s)(h':Fc w v' s):
  Calls Tryz.prog 11 #[.agg #[.int .i64 s.trap,.bool s.done,.int .i64 s.cost,.int .i64 s.steps,v.c,v.k,v.f],.agg #[.int .i64 s.trap,.bool s.done,.int .i64 s.cost,.int .i64 s.steps,v'.c,v'.k,v'.f]] w fun e w'=>e=.returned (.bool true)/\Below w.heap.size w w':=by
 have F0:=MH.of 7 w 39 #[.int .i64 s.trap,.bool s.done,.int .i64 s.cost,.int .i64 s.steps,v.c,v.k,v.f] #[.int .i64 s.trap,.bool s.done,.int .i64 s.cost,.int .i64 s.steps,v'.c,v'.k,v'.f] rfl rfl;have H:=h3 h h' hs;clear h h' hs;go_enter Tryz.func11,Tryz.ntmps11;go_wp2_with fail
 refine(Hn v.c v'.c s.cells _ H.out.2.2.cells H.out.2.2.cell (H.out.1.cells.keep F0.bel lR) (H.out.2.1.cells.keep F0.bel lR)).mono ?_;rintro e u1 ⟨rfl,b1⟩;have F1:=F0.keep b1;clear b1 F0;obtain⟨p0,p1,p2,p3,p4,p5,p6,_⟩:=GN F1.par;obtain⟨o0,o1,o2,o3,o4,o5,o6,_⟩:=GN F1.par';go_wp2_with fail
 refine(Ei v.k v'.k s.stack _ H.out.2.2.stack (H.out.1.stack.keep F1.bel lR) (H.out.2.1.stack.keep F1.bel lR)).mono ?_;rintro e u2 ⟨rfl,b2⟩;have F2:=F1.keep b2;clear b2 F1 p0 p1 p2 p3 p4 p5 p6 o0 o1 o2 o3 o4 o5 o6;obtain⟨p0,p1,p2,p3,p4,p5,p6,_⟩:=GN F2.par;obtain⟨o0,o1,o2,o3,o4,o5,o6,_⟩:=GN F2.par';go_wp2_with fail
 refine(Io v.f v'.f s.frames _ H.out.2.2.frames H.out.2.2.frame (H.out.1.frames.keep F2.bel lR) (H.out.2.1.frames.keep F2.bel lR)).mono ?_;rintro e u3 ⟨rfl,b3⟩;have F3:=F2.keep b3;clear b3 F2 p0 p1 p2 p3 p4 p5 p6 o0 o1 o2 o3 o4 o5 o6;go_wp2
 go_ret
 exact⟨rfl,F3.bel⟩
theorem DX(W0:World)(base:Nat)(s:Value)(cs:List MC)(k0:Int)(w:World)(hn:cs.length<=1048576)(h0:0<=k0)(h1:k0<=1152921504606846976)(h:W0.ownsRow base 128 2 s cs.length (cs.flatMap MC.cells))(hs:Bb W0 w):
  Calls Tryz.prog 57 #[s,.int .i64 k0] w fun e w'=>e=.returned (.int .i64 (k0+2*(cs.length:Int)))/\AY base W0.heap.size w w':=by
 have H:=h2 h hs;rcases Au h with⟨rfl,hz⟩|⟨g,c,rfl⟩
 ·clear h hs
  rw[hz];go_enter Tryz.func57,Tryz.ntmps57;go_wp2
  go_loopw [1,5] (fun q i wr=>q=.int .i64 k0/\i=.int .i64 0/\wr=w) (fun _ _ _=>0)
  case atStart=>exact⟨rfl,rfl,rfl⟩
  case round=>
   obtain⟨rfl,rfl,rfl⟩:=hrel;go_wp2
   go_ret
   exact⟨by simp,AY.refl _ _ _⟩
 ·clear h hs
  generalize hLL:cs.length=n at hn H⊢;have HL:Hid (cs.length=n):=hLL;clear hLL;go_enter Tryz.func57,Tryz.ntmps57;go_wp2
  go_loopw [1,5] (fun q i wr=>∃k:Nat,k<=n/\q=.int .i64 (k0+2*k)/\i=.int .i64 k/\Hid (AY base W0.heap.size w wr)) (fun _ i _=>n-(intOf i).toNat)
  case atStart=>exact⟨0,by omega,by simp,rfl,AY.refl _ _ _⟩
  case round=>
   obtain⟨k,hk,rfl,rfl,HM⟩:=hrel;by_cases hlt:k<n
   ·obtain⟨x,hx⟩:∃x,cs[k]?=some x:=⟨_,gE (by rw[HL.out];exact hlt)⟩
    have f0:=Az MC.cells 2 MC.cells_length cs k 0 x hx (by omega);have f1:=Az MC.cells 2 MC.cells_length cs k 1 x hx (by omega);rw[Nat.add_zero]at f0;obtain⟨y0,c0,a0,z0,m0⟩:=AN H.out.1 (H.out.2.trans HM.out.shaped) f0;have M1:=m0 base W0.heap.size (.int .i64 (k0+2*k)) lR lR (.inr ⟨.i64,x.type,_,rfl,rfl⟩);obtain⟨y1,c1,a1,z1,m1⟩:=AN H.out.1 ((H.out.2.trans HM.out.shaped).trans M1.shaped) f1;have M2:=m1 base W0.heap.size (.int .u32 ((k0+2*k+1) % 4294967296)) lR lR (.inr ⟨.u32,x.word,_,rfl,rfl⟩);have HN:=AM ((HM.out.trans M1).trans M2);obtain⟨d1,e1,_⟩:=AN H.out.1 (H.out.2.trans HM.out.shaped) f1;clear a0 m0 a1 m1 M1 M2 f0 f1 hx;go_wp2
    go_roundw
    case rel=>exact⟨k+1,by omega,by go_num,by go_num,HN⟩
    case measure=>simp[intOf];omega
   ·have hkn:k=n:=by omega
    subst hkn;go_wp2
    go_ret
    exact⟨rfl,HM.out⟩
theorem GO(W0:World)(base:Nat)(s:Value)(rs:List (List MC))(k0:Int)(w:World)(hn:rs.length<=1048576)(hr:∀r∈rs,r.length<=1048576)(h0:0<=k0)(h1:k0<=281474976710656)(h:Dv W0 base s rs)(hs:Bb W0 w):
  Calls Tryz.prog 56 #[s,.int .i64 k0] w fun e w'=>(∃k1,e=.returned (.int .i64 k1)/\k0<=k1/\k1<=k0+2097152*(rs.length:Int))/\AY base W0.heap.size w w':=by
 obtain⟨xs,hxs,hrow,hel⟩:=h;have hxl:xs.length=rs.length:=by rw[<-hxs];simp
 have H:Hid (W0.ownsRow base 36 1 s rs.length (xs.flatMap Ce)/\Bb W0 w/\xs.map Prod.fst=rs/\(∀x∈xs,W0.ownsRow base 128 2 x.2 x.1.length (x.1.flatMap MC.cells))/\(∀r∈rs,r.length<=1048576)/\xs.length=rs.length):=⟨hrow,hs,hxs,hel,hr,hxl⟩
 clear hs hxs hel hr hxl;rcases Au hrow with⟨rfl,hz⟩|⟨g,c,rfl⟩
 ·clear hrow
  go_enter Tryz.func56,Tryz.ntmps56;go_wp2
  go_loopw [1,5] (fun q i wr=>q=.int .i64 k0/\i=.int .i64 0/\wr=w) (fun _ _ _=>0)
  case atStart=>exact⟨rfl,rfl,rfl⟩
  case round=>
   obtain⟨rfl,rfl,rfl⟩:=hrel;go_wp2
   go_ret
   exact⟨⟨k0,rfl,by omega,by omega⟩,AY.refl _ _ _⟩
 ·clear hrow
  generalize hLL:rs.length=n at hn H⊢;have HL:Hid (rs.length=n):=hLL;clear hLL;go_enter Tryz.func56,Tryz.ntmps56;go_wp2
  go_loopw [1,5] (fun q i wr=>∃(k:Nat) (kk:Int),k<=n/\q=.int .i64 kk/\k0<=kk/\kk<=k0+2097152*k/\i=.int .i64 k/\Hid (AY base W0.heap.size w wr)) (fun _ i _=>n-(intOf i).toNat)
  case atStart=>exact⟨0,k0,by omega,rfl,by omega,by omega,rfl,AY.refl _ _ _⟩
  case round=>
   obtain⟨k,kk,hk,rfl,q0,q1,rfl,HM⟩:=hrel;by_cases hlt:k<n
   ·obtain⟨⟨r,v⟩,hx⟩:∃x,xs[k]?=some x:=⟨_,gE (by rw[H.out.2.2.2.2.2];exact hlt)⟩
    have e1:=AO H.out.2.2.1 hx;have hrl:=H.out.2.2.2.2.1 _ (mG e1);have hrr:=H.out.2.2.2.1 _ (mG hx);simp only[]at hrl hrr;have f0:=Az Ce 1 Bf xs k 0 _ hx (by omega);rw[Nat.mul_one,Nat.add_zero]at f0;obtain⟨y0,c0,a0,z0,_⟩:=AN H.out.1 (H.out.2.1.trans HM.out.shaped) f0;obtain⟨av,cv,rfl⟩:=An hrr;obtain rfl:=CZ.slice a0;have HR:=h2 hrr hrl;clear e1 hrr f0 hx a0;go_wp2_with fail
    refine(DX W0 base (.slice av r.length cv) r kk _ HR.out.2 (by omega) (by omega) HR.out.1 (H.out.2.1.trans HM.out.shaped)).mono ?_;rintro e u ⟨rfl,hm⟩;have HN:=AM (HM.out.trans hm);clear hm c0 z0;go_wp2
    go_roundw
    case rel=>exact⟨k+1,kk+2*(r.length:Int),by omega,rfl,by omega,by omega,by go_num,HN⟩
    case measure=>simp[intOf];omega
   ·have hkn:k=n:=by omega
    subst hkn;go_wp2
    go_ret
    exact⟨⟨kk,rfl,by omega,by omega⟩,HM.out⟩
theorem Hs(W0:World)(base:Nat)(s:Value)(rs:List MG)(k0:Int)(w:World)(hn:rs.length<=1048576)(hr:∀r∈rs,r.small)(h0:0<=k0)(h1:k0<=281474976710656)(h:EZ W0 base s rs)(hs:Bb W0 w):
  Calls Tryz.prog 58 #[s,.int .i64 k0] w fun e w'=>(∃k1,e=.returned (.int .i64 k1)/\k0<=k1/\k1<=k0+2097155*(rs.length:Int))/\AY base W0.heap.size w w':=by
 obtain⟨xs,hxs,hrow,hel⟩:=h;have hxl:xs.length=rs.length:=by rw[<-hxs];simp
 have H:Hid (W0.ownsRow base 123 4 s rs.length (xs.flatMap As)/\Bb W0 w/\xs.map Prod.fst=rs/\(∀x∈xs,Ff W0 base x.2 x.1)/\(∀r∈rs,r.small)/\xs.length=rs.length):=⟨hrow,hs,hxs,hel,hr,hxl⟩
 clear hs hxs hel hr hxl;rcases Au hrow with⟨rfl,hz⟩|⟨g,c,rfl⟩
 ·clear hrow
  go_enter Tryz.func58,Tryz.ntmps58;go_wp2
  go_loopw [1,5] (fun q i wr=>q=.int .i64 k0/\i=.int .i64 0/\wr=w) (fun _ _ _=>0)
  case atStart=>exact⟨rfl,rfl,rfl⟩
  case round=>
   obtain⟨rfl,rfl,rfl⟩:=hrel;go_wp2
   go_ret
   exact⟨⟨k0,rfl,by omega,by omega⟩,AY.refl _ _ _⟩
 ·clear hrow
  generalize hLL:rs.length=n at hn H⊢;have HL:Hid (rs.length=n):=hLL;clear hLL;go_enter Tryz.func58,Tryz.ntmps58;go_wp2
  go_loopw [1,5] (fun q i wr=>∃(k:Nat) (kk:Int),k<=n/\q=.int .i64 kk/\k0<=kk/\kk<=k0+2097155*k/\i=.int .i64 k/\Hid (AY base W0.heap.size w wr)) (fun _ i _=>n-(intOf i).toNat)
  case atStart=>exact⟨0,k0,by omega,rfl,by omega,by omega,rfl,AY.refl _ _ _⟩
  case round=>
   obtain⟨k,kk,hk,rfl,q0,q1,rfl,HM⟩:=hrel;by_cases hlt:k<n
   ·obtain⟨⟨r,v⟩,hx⟩:∃x,xs[k]?=some x:=⟨_,gE (by rw[H.out.2.2.2.2.2];exact hlt)⟩
    have e1:=AO H.out.2.2.1 hx;have hrl:=H.out.2.2.2.2.1 _ (mG e1);have hrr:=H.out.2.2.2.1 _ (mG hx);simp only[]at hrl hrr;unfold MG.small at hrl;have f0:=Az As 4 Al xs k 0 _ hx (by omega);have f1:=Az As 4 Al xs k 1 _ hx (by omega);have f2:=Az As 4 Al xs k 2 _ hx (by omega);have f3:=Az As 4 Al xs k 3 _ hx (by omega);rw[Nat.add_zero]at f0;have S0:=H.out.2.1.trans HM.out.shaped;obtain⟨y0,c0,a0,z0,m0⟩:=AN H.out.1 S0 f0;have M1:=m0 base W0.heap.size (.int .i64 kk) lR lR (.inr ⟨.i64,r.func,_,rfl,rfl⟩);obtain⟨y1,c1,a1,z1,m1⟩:=AN H.out.1 (S0.trans M1.shaped) f1;have M2:=m1 base W0.heap.size (.int .i64 (kk+1)) lR lR (.inr ⟨.i64,r.at_,_,rfl,rfl⟩);obtain⟨y2,c2,a2,z2,m2⟩:=AN H.out.1 ((S0.trans M1.shaped).trans M2.shaped) f2;have M3:=m2 base W0.heap.size (.int .i64 (kk+1+1)) lR lR (.inr ⟨.i64,r.base,_,rfl,rfl⟩);obtain⟨y3,c3,a3,z3,_⟩:=AN H.out.1 (((S0.trans M1.shaped).trans M2.shaped).trans M3.shaped) f3;obtain⟨x1,b1,_⟩:=AN H.out.1 S0 f1;obtain⟨x2,b2,_⟩:=AN H.out.1 S0 f2;obtain⟨x3,b3,w3,_⟩:=AN H.out.1 S0 f3;obtain⟨av,cv,rfl⟩:=An hrr;obtain rfl:=CZ.slice a3;obtain rfl:=CZ.slice w3
    have HA:Hid (AY _ _ w (((wr.setCell ⟨g,k*4,none⟩ (.int .i64 kk)).setCell ⟨g,k*4+1,none⟩ (.int .i64 (kk+1))).setCell ⟨g,k*4+2,none⟩ (.int .i64 (kk+1+1)))):=((HM.out.trans M1).trans M2).trans M3;have HR:=AM hrr;clear e1 hrr f0 f1 f2 f3 hx a0 a1 a2 a3 m0 m1 m2 M1 M2 M3 S0;go_wp2_with fail
    refine(DX W0 base (.slice av r.locals.length cv) r.locals (kk+1+1+1) _ hrl (by omega) (by omega) HR.out (H.out.2.1.trans HA.out.shaped)).mono ?_;rintro e u ⟨rfl,hm⟩;have HN:=AM (HA.out.trans hm);clear hm c0 c1 c2 c3 z0 z1 z2 z3 b1 b2 b3;go_wp2
    go_roundw
    case rel=>exact⟨k+1,kk+1+1+1+2*(r.locals.length:Int),by omega,rfl,by omega,by omega,by go_num,HN⟩
    case measure=>simp[intOf];omega
   ·have hkn:k=n:=by omega
    subst hkn;go_wp2
    go_ret
    exact⟨⟨kk,rfl,by omega,by omega⟩,HM.out⟩
end Go.Proofs.YtlejplpkomddeaaGreat
