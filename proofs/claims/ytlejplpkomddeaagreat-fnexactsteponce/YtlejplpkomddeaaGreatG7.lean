import Derived.Test.YtlejplpkomddeaaGreatG0
import Derived.Test.YtlejplpkomddeaaGreatG6
namespace Go.Proofs.YtlejplpkomddeaaGreat
open Go.ChangeShapes Go.WideShapes Go.ChangeAt Go.RowKit
set_option linter.unusedVariables false
set_option maxHeartbeats 2000000
set_option maxRecDepth 100000
structure DM(p:MP)(a b c:Int):Prop where
 low:0<=c
 high:c<256
 mask:bits .and .i64 c (c+1)=0
 there:¬Bm p a b=0
 one:∀j:Nat,(j:Int)<=c->Bm p a (b+j)=Bm p a b
theorem M8{p:MP}{r c:Int}(hs:∀l∈p.regions,l.length<=1048576)(h:¬Bm p r c=0):0<=c/\c<1048576:=by
 unfold Bm at h;split at h
 ·exact absurd rfl h
 ·rename_i hq
  refine⟨by omega,?_⟩;by_cases hr:r.toNat<p.regions.length
  ·have hm:=hs _ (List.getElem_mem hr)
   have e:p.regions.getD r.toNat []=p.regions[r.toNat]:=by rw[List.getD_eq_getElem?_getD,gE hr];rfl
   rw[e]at h;by_cases hc:c.toNat<p.regions[r.toNat].length
   ·omega
   ·exact absurd (by rw[List.getD_eq_getElem?_getD,List.getElem?_eq_none (by omega)];rfl) h
  ·have e:p.regions.getD r.toNat []=[]:=by rw[List.getD_eq_getElem?_getD,List.getElem?_eq_none (by omega)];rfl
   rw[e]at h;exact absurd rfl h
theorem Pj{z:Int}(h0:-9223372036854775808<=z)(h1:z<=9223372036854775807):Dn z:=by simp[Dn,Lit.wf,IntKind.min,IntKind.max,IntKind.signed,IntKind.bits];omega
theorem DN{z:Int}(h:Dn z):-9223372036854775808<=z/\z<=9223372036854775807:=by simpa[Dn,Lit.wf,IntKind.min,IntKind.max,IntKind.signed,IntKind.bits]using h
theorem LO(v:VP)(p:MP)(op a b c:Int)(w:World)(hs:p.small)(h3:p.regions.length=3)(ha:Dn a)(hb:Dn b)(hc:Dn c)(h:Cx w v p):
  Calls Tryz.prog 181 #[.agg #[v.r,v.k,v.f,v.t],.agg #[.int .i64 op,.int .i64 a,.int .i64 b,.int .i64 c]] w fun e w'=>Ao e (DM p a b c)/\Below w.heap.size w w':=by
 have HB:Hid (Below w.heap.size w ((w.alloc (.cells #[v.r,v.k,v.f,v.t] 45)).alloc (.cells #[.int .i64 op,.int .i64 a,.int .i64 b,.int .i64 c] 134))):=Ac (Aa _ _) lR (Aa _ _);have HP:Hid (C6 ((w.alloc (.cells #[v.r,v.k,v.f,v.t] 45)).alloc (.cells #[.int .i64 op,.int .i64 a,.int .i64 b,.int .i64 c] 134)) w.heap.size v.r v.k v.f v.t):=(C6.new w _ _ _ _ _).alloc _
 have HX:Hid (C6 ((w.alloc (.cells #[v.r,v.k,v.f,v.t] 45)).alloc (.cells #[.int .i64 op,.int .i64 a,.int .i64 b,.int .i64 c] 134)) (w.heap.size+1) (.int .i64 op) (.int .i64 a) (.int .i64 b) (.int .i64 c)):=by
  have:=C6.new (w.alloc (.cells #[v.r,v.k,v.f,v.t] 45)) (.int .i64 op) (.int .i64 a) (.int .i64 b) (.int .i64 c) 134;simpa[Hid]using this
 have H:Hid (p.small/\p.regions.length=3/\Dn a/\Dn b/\Cx w v p):=⟨hs,h3,ha,hb,h⟩
 obtain⟨c0,c1⟩:=DN hc;clear hs h3 ha hb h hc;by_cases q0:c<0
 ·have HN:Hid (¬DM p a b c):=fun e=>absurd e.low (by omega)
  clear H HP HX;go_enter Tryz.func181,Tryz.ntmps181;go_wp2
  go_ret
  exact⟨.no HN.out,HB.out⟩
 by_cases q1:256<=c
 ·have HN:Hid (¬DM p a b c):=fun e=>absurd e.high (by omega)
  clear H HP HX;go_enter Tryz.func181,Tryz.ntmps181;go_wp2
  go_ret
  exact⟨.no HN.out,HB.out⟩
 obtain⟨c,rfl⟩:=Int.eq_ofNat_of_zero_le (show 0<=c by omega);have hcn:c<256:=by omega
 clear c0 c1 q0 q1;have q0:¬(c:Int)<0:=by omega
 have q1:¬(256:Int)<=(c:Int):=by omega
 by_cases q2:bits .and .i64 (c:Int) ((c:Int)+1)=0
 ·have HM:Hid (bits .and .i64 (c:Int) ((c:Int)+1)=0):=q2
  go_enter Tryz.func181,Tryz.ntmps181;go_wp2_with fail
  clear q2 q0 q1;refine(FQ v p a b _ H.out.1 H.out.2.1 H.out.2.2.1 H.out.2.2.2.1 (H.out.2.2.2.2.keep HB.out lR)).mono ?_;rintro e u0 ⟨rfl,bl0⟩;have HB1:Hid (Below w.heap.size w u0/\C6 u0 w.heap.size v.r v.k v.f v.t/\C6 u0 (w.heap.size+1) (.int .i64 op) (.int .i64 a) (.int .i64 b) (.int .i64 (c:Int))):=⟨Ac HB.out lR bl0,HP.out.keep bl0,HX.out.keep bl0⟩
  clear bl0 HB HP HX;generalize hT:Bm p a b=T;have HT:Hid (Bm p a b=T):=hT;clear hT;go_wp2
  go_loopw [6] (fun i wr=>∃k:Nat,k<=c+1/\i=.int .i64 k/\Hid ((0<k->¬T=0)/\∀j:Nat,j<k->Bm p a (b+j)=T)/\Hid (Below w.heap.size w wr/\C6 wr w.heap.size v.r v.k v.f v.t/\C6 wr (w.heap.size+1) (.int .i64 op) (.int .i64 a) (.int .i64 b) (.int .i64 (c:Int)))) (fun i _=>c+1-(intOf i).toNat)
  case atStart=>exact⟨0,by omega,rfl,⟨fun h=>by omega,fun j hj=>by omega⟩,HB1⟩
  case round=>
   clear HB1;obtain⟨k,hk,rfl,HI,HW⟩:=hrel;obtain⟨p0,p1,p2,p3⟩:=HW.out.2.1;obtain⟨i0,i1,i2,i3⟩:=HW.out.2.2;by_cases hlt:k<c+1
   ·have hlt':(k:Int)<=(c:Int):=by omega
    by_cases q3:T=0
    ·have q3':(T==0)=true:=by simpa using q3
     have HN:Hid (¬DM p a b c):=fun e=>e.there (HT.out.trans q3)
     clear q3;go_wp2
     go_ret
     exact⟨.no HN.out,HW.out.1⟩
    ·have q3':(T==0)=false:=by simpa using q3
     have hbb:=M8 H.out.1.region (by rw[HT.out];exact q3);obtain⟨b0,b1⟩:=hbb;have HQ3:Hid (¬T=0):=q3;clear q3;go_wp2_with fail;refine(FQ v p a (b+k) _ H.out.1 H.out.2.1 H.out.2.2.1 (Pj (by omega) (by omega)) (H.out.2.2.2.2.keep HW.out.1 lR)).mono ?_;rintro e u1 ⟨rfl,bl1⟩;have HW2:Hid (Below w.heap.size w u1/\C6 u1 w.heap.size v.r v.k v.f v.t/\C6 u1 (w.heap.size+1) (.int .i64 op) (.int .i64 a) (.int .i64 b) (.int .i64 (c:Int))):=⟨Ac HW.out.1 lR bl1,HW.out.2.1.keep bl1,HW.out.2.2.keep bl1⟩
     clear bl1 HW p0 p1 p2 p3 i0 i1 i2 i3;by_cases q4:Bm p a (b+k)=T
     ·rw[q4]
      have HI2:Hid ((0<k+1->¬T=0)/\∀j:Nat,j<k+1->Bm p a (b+j)=T):=⟨fun _=>HQ3.out,fun j hj=>by
       by_cases e:j=k
       ·rw[e];exact q4
       ·exact HI.out.2 j (by omega)⟩
      clear q4;go_wp2
      go_roundw
      case rel=>exact⟨k+1,by omega,by go_num,HI2,HW2⟩
      case measure=>simp[intOf];omega
     ·have HN:Hid (¬DM p a b c):=fun e=>q4 ((e.one k hlt').trans HT.out)
      have q4':(Bm p a (b+k)==T)=false:=by simpa using q4
      have q4'':(Bm p a (b+k) != T)=true:=by simpa using q4
      go_wp2
      go_ret
      exact⟨.no HN.out,HW2.out.1⟩
   ·have hkn:k=c+1:=by omega
    subst hkn;have HY:Hid (DM p a b c):=⟨by omega,by omega,HM.out,by rw[HT.out];exact HI.out.1 (by omega),fun j hj=>by rw[HT.out];exact HI.out.2 j (by omega)⟩;have hle:¬((c:Int)+1)<=(c:Int):=by omega
    go_wp2
    go_ret
    exact⟨.yes HY.out,HW.out.1⟩
 ·have HN:Hid (¬DM p a b c):=fun e=>q2 e.mask
  have q2':(bits .and .i64 (c:Int) ((c:Int)+1)==0)=false:=by simpa using q2
  clear H HP HX;go_enter Tryz.func181,Tryz.ntmps181;go_wp2
  go_ret
  exact⟨.no HN.out,HB.out⟩
theorem Ey(s:Value)(ys:List Int)(w:World)(hn:ys.length<=1048576)(h:Rd w 1 s ys.length (ys.flatMap Af)):
  Calls Tryz.prog 185 #[s] w fun e w'=>e=.returned (.bool (ys.all C9))/\w'=w:=by
 have H1:=AM h;obtain⟨a1,c1,rfl⟩:=h.is_slice;clear h;generalize hLL:ys.length=n at hn H1;have HL:Hid (ys.length=n):=hLL;clear hLL;generalize hR:ys.all C9=R;have HR:Hid (ys.all C9=R):=hR;clear hR;go_enter Tryz.func185,Tryz.ntmps185;go_wp2
 go_loopw [7] (fun i wr=>∃k:Nat,k<=n/\i=.int .i64 k/\Hid ((ys.take k).all C9=true)/\wr=w) (fun i _=>n-(intOf i).toNat)
 case atStart=>exact⟨0,by omega,rfl,by simp[Hid],rfl⟩
 case round=>
  obtain⟨k,hk,rfl,HT,rfl⟩:=hrel;by_cases hlt:k<n
  ·obtain⟨x,hx⟩:∃x,ys[k]?=some x:=⟨_,gE (by rw[HL.out];exact hlt)⟩
   rcases H1.out.2 with⟨e0,_⟩|⟨g,o,c,e1,hc1⟩
   ·omega
   ·simp only[sJ,true_and]at e1
    obtain⟨rfl,rfl⟩:=e1;have i0:=Rd.elem Ap hc1 k x hx 0 _ rfl;rw[Nat.mul_one,Nat.add_zero]at i0;have HX:Hid (ys[k]?=some x):=hx;clear hc1 hx;go_wp2_with fail
    refine(BO x wr).mono ?_;rintro e u ⟨rfl,rfl⟩;cases hq:C9 x with
    | false=>
     have hR:R=false:=by
      rw[<-HR.out];exact Mp _ _ _ (mG HX.out) hq
     subst hR;clear hq;go_wp2
     go_ret
     exact⟨rfl,rfl⟩
    | true=>
     have HN:Hid ((ys.take (k+1)).all C9=true):=by
      show _=_;rw[Kt _ _ _ _ HX.out HT.out];exact hq
     clear hq;go_wp2
     go_roundw
     case rel=>exact⟨k+1,by omega,by go_num,HN,by trivial⟩
     case measure=>simp[intOf];omega
  ·have hkn:k=n:=by omega
   subst hkn
   have hR:R=true:=by
    rw[<-HR.out,<-HT.out,<-HL.out,List.take_length]
   subst hR;go_wp2
   go_ret
   exact⟨rfl,rfl⟩
def El(r:List Int):Prop:=r.length<=256/\r.all C9=true
def AE(rs:List (List Int)):Prop:=rs.length=3/\∀j,j<rs.length->∀r,rs[j]?=some r->El r
theorem GM(s:Value)(fs:List (List Int))(w:World)(hL:fs.length<=1048576)(hs:∀f∈fs,f.length<=1048576)(h:Lm w s fs):
  Calls Tryz.prog 127 #[s] w fun e w'=>Ao e (AE fs)/\w'=w:=by
 obtain⟨xs,hxs,hrd,hel⟩:=h;have hxl:xs.length=fs.length:=by rw[<-hxs];simp
 have H1:=h5 hrd hxs hel hs hxl;obtain⟨a1,c1,rfl⟩:=hrd.is_slice;clear hrd hxs hel hs hxl;generalize hLL:fs.length=n at hL H1;have HL:Hid (fs.length=n):=hLL;clear hLL;by_cases q0:n=3
 ·subst q0
  go_enter Tryz.func127,Tryz.ntmps127;go_wp2
  go_loopw [10] (fun i wr=>∃k:Nat,k<=3/\i=.int .i64 k/\Hid (∀j,j<k->∀r,fs[j]?=some r->El r)/\wr=w) (fun i _=>3-(intOf i).toNat)
  case atStart=>exact⟨0,by omega,rfl,fun j hj=>by omega,rfl⟩
  case round=>
   obtain⟨k,hk,rfl,HT,rfl⟩:=hrel;by_cases hlt:k<3
   ·obtain⟨⟨f,v⟩,hx⟩:∃x,xs[k]?=some x:=⟨_,gE (by rw[H1.out.2.2.2.2];exact hlt)⟩
    have e1:=AO H1.out.2.1 hx;have hf:=H1.out.2.2.1 _ (mG hx);have HX:Hid (Rd wr 1 v f.length (f.flatMap Af)/\f.length<=1048576/\fs[k]?=some f):=⟨hf,H1.out.2.2.2.1 _ (mG e1),e1⟩
    clear e1;rcases H1.out.1.2 with⟨e0,_⟩|⟨b,o,c,e1,hc1⟩
    ·omega
    ·simp only[sJ,true_and]at e1
     obtain⟨rfl,rfl⟩:=e1;have i0:=Rd.elem AK hc1 k _ hx 0 _ rfl;rw[Nat.mul_one,Nat.add_zero]at i0;clear hc1 hx;simp only[]at i0 hf;obtain⟨av,cv,ev⟩:=hf.is_slice;subst ev;clear hf;have hz:=HX.out.2.1;by_cases q1:256<f.length
     ·have HN:Hid (¬AE fs):=fun e=>absurd (e.2 k (by rw[HL.out];exact hlt) f HX.out.2.2).1 (by omega)
      generalize f.length=m at*;go_wp2
      go_ret
      exact⟨.no HN.out,rfl⟩
     ·go_wp2_with fail
      refine(Ey _ f _ HX.out.2.1 HX.out.1).mono ?_;rintro e u ⟨rfl,rfl⟩;cases t1:f.all C9
      ·have HN:Hid (¬AE fs):=fun e=>by have:=(e.2 k (by rw[HL.out];exact hlt) f HX.out.2.2).2;simp[t1]at this
       clear t1;go_wp2
       go_ret
       exact⟨.no HN.out,rfl⟩
      ·have HN:Hid (El f):=⟨by omega,t1⟩
       clear t1;go_wp2
       go_roundw
       case rel=>exact⟨k+1,by omega,by go_num,BK HX.out.2.2 HN.out HT.out,by trivial⟩
       case measure=>simp[intOf];omega
   ·have hkn:k=3:=by omega
    subst hkn;have HY:Hid (AE fs):=⟨HL.out,by rw[HL.out];exact HT.out⟩;go_wp2;go_ret;exact⟨.yes HY.out,rfl⟩
 ·have HN:Hid (¬AE fs):=fun e=>q0 (by rw[<-HL.out];exact e.1)
  have hi:¬(n:Int)=3:=by omega
  clear H1;go_enter Tryz.func127,Tryz.ntmps127;go_wp2
  go_ret
  exact⟨.no HN.out,rfl⟩
def CO(vs:List MC):Prop:=∀v∈vs,Bi v
theorem GE{vs:List MC}(h:∀j,j<vs.length->∀c,vs[j]?=some c->Bi c):CO vs:=fun v hv=>by
 obtain⟨j,hj⟩:=List.getElem?_of_mem hv;exact h j (gI.1 hj).1 v hj
theorem Dz(s:Value)(cs:List MC)(w:World)(hn:cs.length<=1048576)(h:Rd w 2 s cs.length (cs.flatMap MC.cells)):
  Calls Tryz.prog 73 #[s] w fun e w'=>Ao e (CO cs)/\Below w.heap.size w w':=by
 have H1:=AM h;obtain⟨a1,c1,rfl⟩:=h.is_slice;clear h;generalize hLL:cs.length=n at hn H1;have HL:Hid (cs.length=n):=hLL;clear hLL;go_enter Tryz.func73,Tryz.ntmps73;go_wp2
 go_loopw [3] (fun i wr=>∃k:Nat,k<=n/\i=.int .i64 k/\Hid (∀j,j<k->∀c,cs[j]?=some c->Bi c)/\wr=w) (fun i _=>n-(intOf i).toNat)
 case atStart=>exact⟨0,by omega,rfl,fun j hj=>by omega,rfl⟩
 case round=>
  obtain⟨k,hk,rfl,HT,rfl⟩:=hrel;by_cases hlt:k<n
  ·obtain⟨x,hx⟩:∃x,cs[k]?=some x:=⟨_,gE (by rw[HL.out];exact hlt)⟩
   rcases H1.out.2 with⟨e0,_⟩|⟨b,o,c,e1,hc1⟩
   ·omega
   ·simp only[sJ,true_and]at e1
    obtain⟨rfl,rfl⟩:=e1;have i0:=Rd.elem MC.cells_length hc1 k x hx 0 _ rfl;have i1:=Rd.elem MC.cells_length hc1 k x hx 1 _ rfl;rw[Nat.add_zero]at i0;have HX:Hid (x∈cs/\cs[k]?=some x):=⟨mG hx,hx⟩
    clear hc1 hx;go_wp2_with fail
    refine(Bp x.type _).mono ?_;rintro e u ⟨rfl,rfl⟩;cases t1:C9 x.type
    ·have HN:Hid (¬CO cs):=fun e=>by have:=(e x HX.out.1).1;simp[t1]at this
     clear t1;go_wp2
     go_ret
     exact⟨.no HN.out,Below.refl _ _⟩
    ·have HT1:Hid (C9 x.type=true):=t1
     clear t1;by_cases q1:x.type=1
     ·rw[q1]at i0
      by_cases q2:1<x.word
      ·have HN:Hid (¬CO cs):=fun e=>by have:=(e x HX.out.1).2 q1;omega
       go_wp2
       go_ret
       exact⟨.no HN.out,Below.refl _ _⟩
      ·have HC:Hid (Bi x):=⟨HT1.out,fun _=>by omega⟩
       go_wp2
       go_roundw
       case rel=>exact⟨k+1,by omega,by go_num,BK HX.out.2 HC.out HT.out,by trivial⟩
       case measure=>simp[intOf];omega
     ·have q1':(x.type==1)=false:=by simpa using q1
      have HC:Hid (Bi x):=⟨HT1.out,fun e=>absurd e q1⟩;go_wp2
      go_roundw
      case rel=>exact⟨k+1,by omega,by go_num,BK HX.out.2 HC.out HT.out,by trivial⟩
      case measure=>simp[intOf];omega
  ·have hkn:n=k:=by omega
   subst hkn;have HY:Hid (CO cs):=GE (by rw[HL.out];exact HT.out);go_wp2;go_ret;exact⟨.yes HY.out,Below.refl _ _⟩
theorem Br(t c s k:Int)(d:Bool)(a1 a2 a3:Option Addr)(n1 c1 n2 c2 n3 c3:Nat)(w:World):
  Calls Tryz.prog 31 #[.agg #[.int .i64 t,.bool d,.int .i64 c,.int .i64 s,.slice a1 n1 c1,.slice a2 n2 c2,.slice a3 n3 c3],.int .i64 k] w fun e w'=>e=.returned (.agg #[.int .i64 k,.bool d,.int .i64 c,.int .i64 s,.slice a1 n1 c1,.slice a2 n2 c2,.slice a3 n3 c3])/\Below w.heap.size w w':=by
 go_enter Tryz.func31,Tryz.ntmps31;go_wp2_with fail
 refine bodyPost_ret (v:=.agg #[.int .i64 k,.bool d,.int .i64 c,.int .i64 s,.slice a1 n1 c1,.slice a2 n2 c2,.slice a3 n3 c3]) (by simp[results,Tryz.results31,go_sem]) rfl ⟨rfl,?_⟩;exact Ac (Aa _ _) lR (Aa _ _)
theorem Lp(t c s:Int)(d:Bool)(a1 a2 a3:Option Addr)(n1 c1 n2 c2 n3 c3:Nat)(w:World):
  Calls Tryz.prog 41 #[.agg #[.int .i64 t,.bool d,.int .i64 c,.int .i64 s,.slice a1 n1 c1,.slice a2 n2 c2,.slice a3 n3 c3]] w fun e w'=>Ao e (t≠0\/d=true)/\Below w.heap.size w w':=by
 by_cases q:t=0
 ·subst q
  go_enter Tryz.func41,Tryz.ntmps41;go_wp2
  go_ret
  exact⟨.of (by simp),by first|exact Below.refl _ _|exact Aa _ _⟩
 ·have q':(t==0)=false:=by simpa using q
  have q2:(t != 0)=true:=by simp[q]
  go_enter Tryz.func41,Tryz.ntmps41;go_wp2
  go_ret
  exact⟨.of (by simp[q]),by first|exact Below.refl _ _|exact Aa _ _⟩
theorem GB(n:Int)(w:World):Calls Tryz.prog 90 #[.int .i64 n] w fun e w'=>Ao e (0<=n/\n<=4611686018427387904)/\w'=w:=by
 by_cases q:0<=n
 ·go_enter Tryz.func90,Tryz.ntmps90
  go_wp2
  go_ret
  exact⟨.of (by simp[q]),rfl⟩
 ·go_enter Tryz.func90,Tryz.ntmps90
  go_wp2
  go_ret
  exact⟨.of (by simp;omega),rfl⟩
theorem Ck(b:Bool)(t:Int)(w:World):Calls Tryz.prog 170 #[.bool b,.int .i64 t] w fun e w'=>e=.returned (.int .i64 (if b=true then 0 else t))/\w'=w:=by
 cases b<;>
 ·go_enter Tryz.func170,Tryz.ntmps170
  go_wp2
  go_ret
  exact⟨rfl,rfl⟩
theorem GH(x:MC)(t:Int)(w:World):Calls Tryz.prog 171 #[.agg #[.int .i64 x.type,.int .u32 x.word],.int .i64 t] w fun e w'=>Ao e (t=0\/x.type=t)/\Below w.heap.size w w':=by
 by_cases q:t=0
 ·subst q
  go_enter Tryz.func171,Tryz.ntmps171;go_wp2
  go_ret
  exact⟨.of (by simp),by first|exact Below.refl _ _|exact Aa _ _⟩
 ·have q':(t==0)=false:=by simpa using q
  go_enter Tryz.func171,Tryz.ntmps171;go_wp2
  go_ret
  exact⟨.of (by simp[q]),by first|exact Below.refl _ _|exact Aa _ _⟩
theorem FK(x0 x1 x2 x3:Value)(g:VF)(f:MF)(n:Nat)(z:Int)(w:World)(hs:f.small)(h:CK w g f)(hz:(f.params++f.locals)[n]?=some z):
  Calls Tryz.prog 200 #[.agg #[x0,x1,x2,x3,g.p,.int .i64 f.result,g.l,g.c],.int .i64 (n:Int)] w fun e w'=>e=.returned (.int .i64 z)/\Below w.heap.size w w':=by
 obtain⟨a1,c1,e1⟩:=h.1.is_slice;obtain⟨a2,c2,e2⟩:=h.2.1.is_slice;obtain⟨vp,vl,vc⟩:=g;obtain⟨s1,s2,s3⟩:=hs;simp only[]at e1 e2;subst e1 e2;have HB:Hid (Below w.heap.size w (w.alloc (.cells #[x0,x1,x2,x3,.slice a1 f.params.length c1,.int .i64 f.result,.slice a2 f.locals.length c2,vc] 164))):=Aa _ _;by_cases q:n<f.params.length
 ·rw[List.getElem?_append_left q]at hz
  have hq:(n:Int)<(f.params.length:Int):=by omega
  rcases h.1.2 with⟨e0,_⟩|⟨gr,gor,gcr,e1,hc2⟩
  ·omega
  simp only[sJ,true_and]at e1;obtain⟨rfl,rfl⟩:=e1;have l0:=Rd.elem Ap hc2 n z hz 0 _ rfl;rw[Nat.mul_one,Nat.add_zero]at l0;have l1:=(HB.out.cell (bL l0)).trans l0;have nb:¬gr=w.heap.size:=Nat.ne_of_lt (bL l0);clear h hz hc2;generalize f.params.length=N at*;generalize f.locals.length=M at*;go_enter Tryz.func200,Tryz.ntmps200;go_wp2
  go_ret
  exact⟨rfl,HB.out⟩
 ·rw[List.getElem?_append_right (by omega)]at hz
  have hlt:=(gI.1 hz).1;obtain⟨d,rfl⟩:∃d,n=f.params.length+d:=⟨n-f.params.length,by omega⟩;rw[Nat.add_sub_cancel_left]at hz;have hq:¬((f.params.length+d:Nat):Int)<(f.params.length:Int):=by omega
  rcases h.2.1.2 with⟨e0,_⟩|⟨gr,gor,gcr,e1,hc2⟩
  ·omega
  simp only[sJ,true_and]at e1;obtain⟨rfl,rfl⟩:=e1;have l0:=Rd.elem Ap hc2 d z hz 0 _ rfl;rw[Nat.mul_one,Nat.add_zero]at l0;have l1:=(HB.out.cell (bL l0)).trans l0;have nb:¬gr=w.heap.size:=Nat.ne_of_lt (bL l0);have hd:d<f.locals.length:=by omega
  clear h hz hc2 q hlt;generalize f.params.length=N at*;generalize f.locals.length=M at*;have hsub:((N+d:Nat):Int)-(N:Int)=(d:Int):=by omega
  go_enter Tryz.func200,Tryz.ntmps200;go_wp2
  go_ret
  exact⟨rfl,HB.out⟩
theorem GY(s:Value)(cs:List MC)(w:World)(hn:cs.length<=1048576)(hw:∀c∈cs,0<=c.word)(h:Rd w 2 s cs.length (cs.flatMap MC.cells)):
  Calls Tryz.prog 128 #[s] w fun e w'=>Ao e (A3 cs)/\Below w.heap.size w w':=by
 have H1:=AM h;obtain⟨a1,c1,rfl⟩:=h.is_slice;clear h;have HZ:Hid (∀c∈cs,0<=c.word):=hw;clear hw;generalize hLL:cs.length=n at hn H1;have HL:Hid (cs.length=n):=hLL;clear hLL;by_cases q0:64<n
 ·have HN:Hid (¬A3 cs):=fun e=>absurd e.1 (by rw[HL.out];omega)
  clear H1;go_enter Tryz.func128,Tryz.ntmps128;go_wp2
  go_ret
  exact⟨.no HN.out,Below.refl _ _⟩
 go_enter Tryz.func128,Tryz.ntmps128;go_wp2
 go_loopw [10] (fun i wr=>∃k:Nat,k<=n/\i=.int .i64 k/\Hid (∀j,j<k->∀c,cs[j]?=some c->Bi c)/\Hid (Below w.heap.size w wr)) (fun i _=>n-(intOf i).toNat)
 case atStart=>exact⟨0,by omega,rfl,fun j hj=>by omega,Below.refl _ _⟩
 case round=>
  obtain⟨k,hk,rfl,HT,HW⟩:=hrel;by_cases hlt:k<n
  ·obtain⟨x,hx⟩:∃x,cs[k]?=some x:=⟨_,gE (by rw[HL.out];exact hlt)⟩
   rcases H1.out.2 with⟨e0,_⟩|⟨b,o,c,e1,hc1⟩
   ·omega
   ·simp only[sJ,true_and]at e1
    obtain⟨rfl,rfl⟩:=e1;have i0:=Rd.elem MC.cells_length hc1 k x hx 0 _ rfl;have i1:=Rd.elem MC.cells_length hc1 k x hx 1 _ rfl;rw[<-HW.out.cell (bL i0),Nat.add_zero]at i0;rw[<-HW.out.cell (bL i1)]at i1;have HX:Hid (cs[k]?=some x):=hx;clear hc1 hx;have nb:¬b=wr.heap.size:=Nat.ne_of_lt (bL i0);have mb:b<wr.heap.size:=bL i0;have HW2:Hid (Below w.heap.size w (wr.alloc (.cells #[.int .i64 x.type,.int .u32 x.word] 143))):=Ac HW.out lR (Aa _ _);go_wp2_with fail
    refine(Fg x.type x.word _ (HZ.out x (mG HX.out))).mono ?_;rintro e u ⟨⟨b1,rfl,hb1⟩,blu⟩;have HW3:Hid (Below w.heap.size w u):=Ac HW2.out lR blu;clear i0 i1 nb mb blu HW2;cases b1
    ·have HN:Hid (¬A3 cs):=fun e=>absurd (hb1.2 (e.2 k (by rw[HL.out];exact hlt) x HX.out)) Bool.false_ne_true
     clear hb1;go_wp2
     go_ret
     exact⟨.no HN.out,HW3.out⟩
    ·have HC:Hid (Bi x):=hb1.1 rfl
     clear hb1;go_wp2
     go_roundw
     case rel=>exact⟨k+1,by omega,by go_num,BK HX.out HC.out HT.out,HW3⟩
     case measure=>simp[intOf];omega
  ·have hkn:n=k:=by omega
   subst hkn;have HY:Hid (A3 cs):=⟨by rw[HL.out];omega,by rw[HL.out];exact HT.out⟩;go_wp2;go_ret;exact⟨.yes HY.out,HW.out⟩
theorem H7(v:VF)(f:MF)(w:World)(hs:f.small)(h:CK w v f):
  Calls Tryz.prog 186 #[.agg #[v.p,.int .i64 f.result,v.l,v.c]] w fun e w'=>Ao e (Ch f)/\Below w.heap.size w w':=by
 have H1:=h2 h hs;obtain⟨a1,c1,e1⟩:=h.1.is_slice;obtain⟨a2,c2,e2⟩:=h.2.1.is_slice;obtain⟨a3,c3,e3⟩:=h.2.2.is_slice;obtain⟨vp,vl,vc⟩:=v;obtain⟨s1,s2,s3⟩:=hs;simp only[]at e1 e2 e3;subst e1 e2 e3;clear h;have HB:Hid (Below w.heap.size w (w.alloc (.cells #[.slice a1 f.params.length c1,.int .i64 f.result,.slice a2 f.locals.length c2,.slice a3 f.code.length c3] 131))):=Aa _ _;by_cases q1:8<f.params.length
 ·have HN:Hid (¬Ch f):=fun e=>absurd e.par (by omega)
  clear H1;generalize f.params.length=n1 at*;generalize f.locals.length=n2 at*;generalize f.code.length=n3 at*;go_enter Tryz.func186,Tryz.ntmps186;go_wp2
  go_ret
  exact⟨.no HN.out,HB.out⟩
 by_cases q2:32<f.params.length+f.locals.length
 ·have HN:Hid (¬Ch f):=fun e=>absurd e.loc (by omega)
  clear H1;generalize f.params.length=n1 at*;generalize f.locals.length=n2 at*;generalize f.code.length=n3 at*;go_enter Tryz.func186,Tryz.ntmps186;go_wp2
  go_ret
  exact⟨.no HN.out,HB.out⟩
 by_cases q3:f.code.length=0
 ·have HN:Hid (¬Ch f):=fun e=>e.code0 q3
  clear H1;generalize f.params.length=n1 at*;generalize f.locals.length=n2 at*;generalize f.code.length=n3 at*;subst q3;go_enter Tryz.func186,Tryz.ntmps186;go_wp2
  go_ret
  exact⟨.no HN.out,HB.out⟩
 by_cases q4:1024<f.code.length
 ·have HN:Hid (¬Ch f):=fun e=>absurd e.code1 (by omega)
  clear H1;generalize f.params.length=n1 at*;generalize f.locals.length=n2 at*;generalize f.code.length=n3 at*;go_enter Tryz.func186,Tryz.ntmps186;go_wp2
  go_ret
  exact⟨.no HN.out,HB.out⟩
 have q1':¬(8:Int)<(f.params.length:Int):=by omega
 have q2':¬(32:Int)<(f.params.length:Int)+(f.locals.length:Int):=by omega
 have q3':((f.code.length:Int)==0)=false:=by simpa using q3
 have q4':¬(1024:Int)<(f.code.length:Int):=by omega
 have HQ:Hid (f.params.length<=8/\f.params.length+f.locals.length<=32/\¬f.code.length=0/\f.code.length<=1024):=⟨by omega,by omega,q3,by omega⟩
 go_enter Tryz.func186,Tryz.ntmps186;go_wp2_with fail
 refine(Ey _ f.params _ H1.out.2.1 (H1.out.1.1.keep HB.out lR)).mono ?_;rintro e u ⟨rfl,rfl⟩;cases t1:f.params.all C9
 ·have HN:Hid (¬Ch f):=fun e=>by have:=e.pt;simp[t1]at this
  clear t1;go_wp2
  go_ret
  exact⟨.no HN.out,HB.out⟩
 have HT1:Hid (f.params.all C9=true):=t1;clear t1;go_wp2_with fail
 refine(Ey _ f.locals _ H1.out.2.2.1 (H1.out.1.2.1.keep HB.out lR)).mono ?_;rintro e u ⟨rfl,rfl⟩;cases t1:f.locals.all C9
 ·have HN:Hid (¬Ch f):=fun e=>by have:=e.lt;simp[t1]at this
  clear t1;go_wp2
  go_ret
  exact⟨.no HN.out,HB.out⟩
 have HT2:Hid (f.locals.all C9=true):=t1;clear t1;generalize hR:f.result=R at*;have HE:Hid (f.result=R):=hR;clear hR q1 q2 q3 q4;by_cases q5:R=0
 ·subst q5
  have HY:Hid (Ch f):=⟨HQ.out.1,HQ.out.2.1,HT1.out,HT2.out,.inl HE.out,HQ.out.2.2.1,HQ.out.2.2.2⟩;go_wp2
  go_ret
  exact⟨.yes HY.out,HB.out⟩
 ·have q5':(R==0)=false:=by simpa using q5
  go_wp2_with fail
  refine(BO R _).mono ?_;rintro e u ⟨rfl,rfl⟩;cases t1:C9 R
  ·have HN:Hid (¬Ch f):=fun e=>by have:=e.res;rw[HE.out]at this;simp[q5,t1]at this
   clear t1;go_wp2
   go_ret
   exact⟨.no HN.out,HB.out⟩
  ·have HY:Hid (Ch f):=⟨HQ.out.1,HQ.out.2.1,HT1.out,HT2.out,.inr (by rw[HE.out];exact t1),HQ.out.2.2.1,HQ.out.2.2.2⟩
   clear t1;go_wp2
   go_ret
   exact⟨.yes HY.out,HB.out⟩
end Go.Proofs.YtlejplpkomddeaaGreat
