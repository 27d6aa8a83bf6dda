import Derived.Test.YtlejplpkomddeaaGreatG0
import Derived.Test.YtlejplpkomddeaaGreatG4
namespace Go.Proofs.YtlejplpkomddeaaGreat
open Go.ChangeShapes Go.WideShapes Go.ChangeAt Go.RowKit
set_option linter.unusedVariables false
set_option maxHeartbeats 4000000
set_option maxRecDepth 100000
structure Ae(w:World) where
 u:World
 h:Below w.heap.size w u
theorem Ae.some(w:World):Nonempty (Ae w):=⟨⟨w,Below.refl _ _⟩⟩
theorem Ak{P:Program}{id:Nat}{Q:Exit->Act->World->Prop}{a:Act}{w:World}{l:List Oper}(hm:P.follows .mixedOrders=true)(hB:Region.lexB .any l.toArray=true)
  (h:wpQuiet P l.toArray (fun w'=>∃n:Ae w,w'=n.u) (fun a'=>∀w',(∃n:Ae w,w'=n.u)->Q .normal a' w') l a):(Code.region id l.toArray true).wp P Q a w:=
 wp_region_quiet (C:=fun w'=>∃n:Ae w,w'=n.u) hm hB ⟨⟨_,Ad w⟩,rfl⟩ (by simpa using h)
theorem Ao.true{e:Ending}{q:Prop}(h:Ao e q)(hq:q):e=.returned (.bool true):=by
 obtain⟨b,rfl,hb⟩:=h;rw[hb.2 hq]
theorem Ao.false{e:Ending}{q:Prop}(h:Ao e q)(hq:¬q):e=.returned (.bool false):=by
 obtain⟨b,rfl,hb⟩:=h;cases b
 ·rfl
 ·exact absurd (hb.1 rfl) hq
theorem Ae.cell{w:World}{a:Addr}{x:Value}(h:w.cell? a=Option.some x)(n:Ae w):n.u.cell? a=Option.some x:=by rw[n.h.cell (bL h)];exact h
def At(f:MF)(k:Int):Int:=if k<0 then 0 else(f.params++f.locals).getD k.toNat 0
theorem Fh{f:MF}{k:Int}(h:k<0):At f k=0:=if_pos h
theorem GG{f:MF}{k:Nat}{x:Int}(h:f.params[k]?=some x):At f k=x:=by
 obtain⟨hlt,rfl⟩:=gI.1 h;unfold At;rw[if_neg (by omega),List.getD_eq_getElem?_getD,Int.toNat_natCast,List.getElem?_append_left hlt,gE hlt];rfl
theorem GI{f:MF}{k:Nat}{x:Int}(h:f.locals[k]?=some x):At f ((f.params.length:Int)+k)=x:=by
 obtain⟨hlt,rfl⟩:=gI.1 h;unfold At;have e:((f.params.length:Int)+k).toNat=f.params.length+k:=by omega
 rw[if_neg (by omega),List.getD_eq_getElem?_getD,e,List.getElem?_append_right (by omega),Nat.add_sub_cancel_left,gE hlt];rfl
theorem Gy{f:MF}{k:Int}(h:(f.params.length:Int)+f.locals.length<=k):At f k=0:=by
 unfold At;rw[if_neg (by omega),List.getD_eq_getElem?_getD,List.getElem?_eq_none (by rw[List.length_append];omega)];rfl
theorem Co(v:VF)(f:MF)(k:Int)(w:World)(hs:f.small)(hk:Dn k)(h:CK w v f):
  Calls Tryz.prog 74 #[.agg #[v.p,.int .i64 f.result,v.l,v.c],.int .i64 k] w fun e w'=>e=.returned (.int .i64 (At f k))/\Below w.heap.size w w':=by
 have hk':-9223372036854775808<=k/\k<=9223372036854775807:=by simpa[Dn,Lit.wf,IntKind.min,IntKind.max,IntKind.signed,IntKind.bits]using hk
 obtain⟨k0,k1⟩:=hk';obtain⟨s1,s2,s3⟩:=hs;have H1:=AM h;obtain⟨a1,c1,e1⟩:=h.1.is_slice;obtain⟨a2,c2,e2⟩:=h.2.1.is_slice;obtain⟨vp,vl,vc⟩:=v;simp only[]at e1 e2;subst e1;subst e2;clear h hk s3;have F0:=ON.of w 131 #[.slice a1 f.params.length c1,.int .i64 f.result,.slice a2 f.locals.length c2,vc] rfl;have HB:Hid _:=F0.bel;clear F0;generalize hn1:f.params.length=n1 at*;generalize hn2:f.locals.length=n2 at*;have HN:=h2 hn1 hn2;clear hn1 hn2;by_cases q0:k<0
 ·rw[Fh q0]
  go_enter Tryz.func74,Tryz.ntmps74;go_wp2
  go_ret
  exact⟨rfl,HB.out⟩
 ·obtain⟨j,rfl⟩:=Int.eq_ofNat_of_zero_le (show 0<=k by omega)
  by_cases q1:j<n1
  ·obtain⟨x,hx⟩:∃x,f.params[j]?=some x:=⟨_,gE (by rw[HN.out.1];exact q1)⟩
   rw[GG hx];rcases H1.out.1.2 with⟨e0,_⟩|⟨g,o,c,e1,hc1⟩
   ·rw[HN.out.1]at e0
    omega
   ·simp only[sJ]at e1
    obtain⟨rfl,hh,rfl⟩:=e1;clear hh;have i0:=Rd.elem Ap hc1 j x hx 0 _ rfl;rw[Nat.mul_one,Nat.add_zero]at i0;have i1:=(HB.out.cell (bL i0)).trans i0;clear hc1 hx i0;go_enter Tryz.func74,Tryz.ntmps74;go_wp2
    go_ret
    exact⟨rfl,HB.out⟩
  ·by_cases q2:j<n1+n2
   ·obtain⟨x,hx⟩:∃x,f.locals[j-n1]?=some x:=⟨_,gE (by rw[HN.out.2];omega)⟩
    have hl:=GI hx;rw[HN.out.1]at hl;have ej:((n1:Int)+((j-n1:Nat):Int))=(j:Int):=by omega
    rw[ej]at hl;rw[hl];rcases H1.out.2.1.2 with⟨e0,_⟩|⟨g,o,c,e1,hc1⟩
    ·rw[HN.out.2]at e0
     omega
    ·simp only[sJ]at e1
     obtain⟨rfl,hh,rfl⟩:=e1;clear hh;have i0:=Rd.elem Ap hc1 (j-n1) x hx 0 _ rfl;rw[Nat.mul_one,Nat.add_zero]at i0;have i1:=(HB.out.cell (bL i0)).trans i0;clear hc1 hx i0 hl ej;go_enter Tryz.func74,Tryz.ntmps74;go_wp2
     go_ret
     exact⟨rfl,HB.out⟩
   ·rw[Gy (by rw[HN.out.1,HN.out.2];omega)]
    go_enter Tryz.func74,Tryz.ntmps74;go_wp2
    go_ret
    exact⟨rfl,HB.out⟩
section
variable {H:Type} {enc:TypeId×Value->H} {w:World} {spare:Nat->Bool} {held:Bool} {fuel:Nat} {cs:List Value} {x:DataW H×List MemPlace}
end
theorem DQ(W0:World)(base:Nat)(s:Value)(cs:List Int)(k0:Int)(w:World)(hn:cs.length<=1048576)(h0:0<=k0)(h1:k0<=1152921504606846976)(h:W0.ownsRow base 2 1 s cs.length (cs.flatMap Af))(hs:Bb W0 w):
  Calls Tryz.prog 107 #[s,.int .i64 k0] w fun e w'=>e=.returned (.int .i64 (k0+(cs.length:Int)))/\AY base W0.heap.size w w':=by
 have H:=h2 h hs;rcases Au h with⟨rfl,hz⟩|⟨g,c,rfl⟩
 ·clear h hs
  rw[hz];go_enter Tryz.func107,Tryz.ntmps107;go_wp2
  go_loopw [1,5] (fun q i wr=>q=.int .i64 k0/\i=.int .i64 0/\wr=w) (fun _ _ _=>0)
  case atStart=>exact⟨rfl,rfl,rfl⟩
  case round=>
   obtain⟨rfl,rfl,rfl⟩:=hrel;go_wp2
   go_ret
   exact⟨by simp,AY.refl _ _ _⟩
 ·clear h hs
  generalize hLL:cs.length=n at hn H⊢;have HL:Hid (cs.length=n):=hLL;clear hLL;go_enter Tryz.func107,Tryz.ntmps107;go_wp2
  go_loopw [1,5] (fun q i wr=>∃k:Nat,k<=n/\q=.int .i64 (k0+k)/\i=.int .i64 k/\Hid (AY base W0.heap.size w wr)) (fun _ i _=>n-(intOf i).toNat)
  case atStart=>exact⟨0,by omega,by simp,rfl,AY.refl _ _ _⟩
  case round=>
   obtain⟨k,hk,rfl,rfl,HM⟩:=hrel;by_cases hlt:k<n
   ·obtain⟨x,hx⟩:∃x,cs[k]?=some x:=⟨_,gE (by rw[HL.out];exact hlt)⟩
    have S0:=H.out.2.trans HM.out.shaped;have f0:=Az Af 1 Ap cs k 0 x hx (by omega);rw[Nat.mul_one,Nat.add_zero]at f0;obtain⟨y0,c0,a0,z0,m0⟩:=AN H.out.1 (S0) f0;have M0:=m0 base W0.heap.size (.int .i64 (k0+k)) lR lR (.inr ⟨.i64,x,_,rfl,rfl⟩);have HN:=AM ((HM.out).trans M0);clear a0 m0 M0 f0 hx S0;go_wp2
    go_roundw
    case rel=>exact⟨k+1,by omega,by go_num,by go_num,HN⟩
    case measure=>simp[intOf];omega
   ·have hkn:k=n:=by omega
    subst hkn;go_wp2
    go_ret
    exact⟨rfl,HM.out⟩
theorem He(W0:World)(base:Nat)(s:Value)(cs:List MC)(k0:Int)(w:World)(hn:cs.length<=1048576)(h0:0<=k0)(h1:k0<=1152921504606846976)(h:W0.ownsRow base 143 2 s cs.length (cs.flatMap MC.cells))(hs:Bb W0 w):
  Calls Tryz.prog 53 #[s,.int .i64 k0] w fun e w'=>e=.returned (.int .i64 (k0+2*(cs.length:Int)))/\AY base W0.heap.size w w':=by
 have H:=h2 h hs;rcases Au h with⟨rfl,hz⟩|⟨g,c,rfl⟩
 ·clear h hs
  rw[hz];go_enter Tryz.func53,Tryz.ntmps53;go_wp2
  go_loopw [1,5] (fun q i wr=>q=.int .i64 k0/\i=.int .i64 0/\wr=w) (fun _ _ _=>0)
  case atStart=>exact⟨rfl,rfl,rfl⟩
  case round=>
   obtain⟨rfl,rfl,rfl⟩:=hrel;go_wp2
   go_ret
   exact⟨by simp,AY.refl _ _ _⟩
 ·clear h hs
  generalize hLL:cs.length=n at hn H⊢;have HL:Hid (cs.length=n):=hLL;clear hLL;go_enter Tryz.func53,Tryz.ntmps53;go_wp2
  go_loopw [1,5] (fun q i wr=>∃k:Nat,k<=n/\q=.int .i64 (k0+2*k)/\i=.int .i64 k/\Hid (AY base W0.heap.size w wr)) (fun _ i _=>n-(intOf i).toNat)
  case atStart=>exact⟨0,by omega,by simp,rfl,AY.refl _ _ _⟩
  case round=>
   obtain⟨k,hk,rfl,rfl,HM⟩:=hrel;by_cases hlt:k<n
   ·obtain⟨x,hx⟩:∃x,cs[k]?=some x:=⟨_,gE (by rw[HL.out];exact hlt)⟩
    have S0:=H.out.2.trans HM.out.shaped;have f0:=Az MC.cells 2 MC.cells_length cs k 0 x hx (by omega);rw[Nat.add_zero]at f0;obtain⟨y0,c0,a0,z0,m0⟩:=AN H.out.1 (S0) f0;have M0:=m0 base W0.heap.size (.int .i64 (k0+2*k)) lR lR (.inr ⟨.i64,x.type,_,rfl,rfl⟩);have f1:=Az MC.cells 2 MC.cells_length cs k 1 x hx (by omega);obtain⟨y1,c1,a1,z1,m1⟩:=AN H.out.1 ((S0).trans M0.shaped) f1;have M1:=m1 base W0.heap.size (.int .u32 ((k0+2*k+1) % 4294967296)) lR lR (.inr ⟨.u32,x.word,_,rfl,rfl⟩);obtain⟨d1,e1,_⟩:=AN H.out.1 S0 f1;have HN:Hid (AY base W0.heap.size w _):=((HM.out).trans M0).trans M1;clear a0 m0 M0 f0 a1 m1 M1 f1 hx S0;go_wp2
    go_roundw
    case rel=>exact⟨k+1,by omega,by go_num,by go_num,HN⟩
    case measure=>simp[intOf];omega
   ·have hkn:k=n:=by omega
    subst hkn;go_wp2
    go_ret
    exact⟨rfl,HM.out⟩
theorem Hj(W0:World)(base:Nat)(s:Value)(cs:List MI)(k0:Int)(w:World)(hn:cs.length<=1048576)(h0:0<=k0)(h1:k0<=1152921504606846976)(h:W0.ownsRow base 134 4 s cs.length (cs.flatMap MI.cells))(hs:Bb W0 w):
  Calls Tryz.prog 108 #[s,.int .i64 k0] w fun e w'=>e=.returned (.int .i64 (k0+4*(cs.length:Int)))/\AY base W0.heap.size w w':=by
 have H:=h2 h hs;rcases Au h with⟨rfl,hz⟩|⟨g,c,rfl⟩
 ·clear h hs
  rw[hz];go_enter Tryz.func108,Tryz.ntmps108;go_wp2
  go_loopw [1,5] (fun q i wr=>q=.int .i64 k0/\i=.int .i64 0/\wr=w) (fun _ _ _=>0)
  case atStart=>exact⟨rfl,rfl,rfl⟩
  case round=>
   obtain⟨rfl,rfl,rfl⟩:=hrel;go_wp2
   go_ret
   exact⟨by simp,AY.refl _ _ _⟩
 ·clear h hs
  generalize hLL:cs.length=n at hn H⊢;have HL:Hid (cs.length=n):=hLL;clear hLL;go_enter Tryz.func108,Tryz.ntmps108;go_wp2
  go_loopw [1,5] (fun q i wr=>∃k:Nat,k<=n/\q=.int .i64 (k0+4*k)/\i=.int .i64 k/\Hid (AY base W0.heap.size w wr)) (fun _ i _=>n-(intOf i).toNat)
  case atStart=>exact⟨0,by omega,by simp,rfl,AY.refl _ _ _⟩
  case round=>
   obtain⟨k,hk,rfl,rfl,HM⟩:=hrel;by_cases hlt:k<n
   ·obtain⟨x,hx⟩:∃x,cs[k]?=some x:=⟨_,gE (by rw[HL.out];exact hlt)⟩
    have S0:=H.out.2.trans HM.out.shaped;have f0:=Az MI.cells 4 MI.cells_length cs k 0 x hx (by omega);rw[Nat.add_zero]at f0;obtain⟨y0,c0,a0,z0,m0⟩:=AN H.out.1 (S0) f0;have M0:=m0 base W0.heap.size (.int .i64 (k0+4*k)) lR lR (.inr ⟨.i64,x.op,_,rfl,rfl⟩);have f1:=Az MI.cells 4 MI.cells_length cs k 1 x hx (by omega);obtain⟨y1,c1,a1,z1,m1⟩:=AN H.out.1 ((S0).trans M0.shaped) f1;have M1:=m1 base W0.heap.size (.int .i64 (k0+4*k+1)) lR lR (.inr ⟨.i64,x.a,_,rfl,rfl⟩);obtain⟨d1,e1,_⟩:=AN H.out.1 S0 f1;have f2:=Az MI.cells 4 MI.cells_length cs k 2 x hx (by omega);obtain⟨y2,c2,a2,z2,m2⟩:=AN H.out.1 (((S0).trans M0.shaped).trans M1.shaped) f2;have M2:=m2 base W0.heap.size (.int .i64 (k0+4*k+1+1)) lR lR (.inr ⟨.i64,x.b,_,rfl,rfl⟩);obtain⟨d2,e2,_⟩:=AN H.out.1 S0 f2;have f3:=Az MI.cells 4 MI.cells_length cs k 3 x hx (by omega);obtain⟨y3,c3,a3,z3,m3⟩:=AN H.out.1 ((((S0).trans M0.shaped).trans M1.shaped).trans M2.shaped) f3;have M3:=m3 base W0.heap.size (.int .i64 (k0+4*k+1+1+1)) lR lR (.inr ⟨.i64,x.c,_,rfl,rfl⟩);obtain⟨d3,e3,_⟩:=AN H.out.1 S0 f3;have HN:Hid (AY base W0.heap.size w _):=((((HM.out).trans M0).trans M1).trans M2).trans M3;clear a0 m0 M0 f0 a1 m1 M1 f1 a2 m2 M2 f2 a3 m3 M3 f3 hx S0
    go_wp2
    go_roundw
    case rel=>exact⟨k+1,by omega,by go_num,by go_num,HN⟩
    case measure=>simp[intOf];omega
   ·have hkn:k=n:=by omega
    subst hkn;go_wp2
    go_ret
    exact⟨rfl,HM.out⟩
theorem It(W0:World)(base:Nat)(s:Value)(cs:List MT)(k0:Int)(w:World)(hn:cs.length<=1048576)(h0:0<=k0)(h1:k0<=1152921504606846976)(h:W0.ownsRow base 148 4 s cs.length (cs.flatMap MT.cells))(hs:Bb W0 w):
  Calls Tryz.prog 55 #[s,.int .i64 k0] w fun e w'=>e=.returned (.int .i64 (k0+4*(cs.length:Int)))/\AY base W0.heap.size w w':=by
 have H:=h2 h hs;rcases Au h with⟨rfl,hz⟩|⟨g,c,rfl⟩
 ·clear h hs
  rw[hz];go_enter Tryz.func55,Tryz.ntmps55;go_wp2
  go_loopw [1,5] (fun q i wr=>q=.int .i64 k0/\i=.int .i64 0/\wr=w) (fun _ _ _=>0)
  case atStart=>exact⟨rfl,rfl,rfl⟩
  case round=>
   obtain⟨rfl,rfl,rfl⟩:=hrel;go_wp2
   go_ret
   exact⟨by simp,AY.refl _ _ _⟩
 ·clear h hs
  generalize hLL:cs.length=n at hn H⊢;have HL:Hid (cs.length=n):=hLL;clear hLL;go_enter Tryz.func55,Tryz.ntmps55;go_wp2
  go_loopw [1,5] (fun q i wr=>∃k:Nat,k<=n/\q=.int .i64 (k0+4*k)/\i=.int .i64 k/\Hid (AY base W0.heap.size w wr)) (fun _ i _=>n-(intOf i).toNat)
  case atStart=>exact⟨0,by omega,by simp,rfl,AY.refl _ _ _⟩
  case round=>
   obtain⟨k,hk,rfl,rfl,HM⟩:=hrel;by_cases hlt:k<n
   ·obtain⟨x,hx⟩:∃x,cs[k]?=some x:=⟨_,gE (by rw[HL.out];exact hlt)⟩
    have S0:=H.out.2.trans HM.out.shaped;have f0:=Az MT.cells 4 MT.cells_length cs k 0 x hx (by omega);rw[Nat.add_zero]at f0;obtain⟨y0,c0,a0,z0,m0⟩:=AN H.out.1 (S0) f0;have M0:=m0 base W0.heap.size (.int .i64 (k0+4*k)) lR lR (.inr ⟨.i64,x.func,_,rfl,rfl⟩);have f1:=Az MT.cells 4 MT.cells_length cs k 1 x hx (by omega);obtain⟨y1,c1,a1,z1,m1⟩:=AN H.out.1 ((S0).trans M0.shaped) f1;have M1:=m1 base W0.heap.size (.int .i64 (k0+4*k+1)) lR lR (.inr ⟨.i64,x.head,_,rfl,rfl⟩);obtain⟨d1,e1,_⟩:=AN H.out.1 S0 f1;have f2:=Az MT.cells 4 MT.cells_length cs k 2 x hx (by omega);obtain⟨y2,c2,a2,z2,m2⟩:=AN H.out.1 (((S0).trans M0.shaped).trans M1.shaped) f2;have M2:=m2 base W0.heap.size (.int .i64 (k0+4*k+1+1)) lR lR (.inr ⟨.i64,x.counter,_,rfl,rfl⟩);obtain⟨d2,e2,_⟩:=AN H.out.1 S0 f2;have f3:=Az MT.cells 4 MT.cells_length cs k 3 x hx (by omega);obtain⟨y3,c3,a3,z3,m3⟩:=AN H.out.1 ((((S0).trans M0.shaped).trans M1.shaped).trans M2.shaped) f3;have M3:=m3 base W0.heap.size (.int .u32 ((k0+4*k+1+1+1) % 4294967296)) lR lR (.inr ⟨.u32,x.init,_,rfl,rfl⟩);obtain⟨d3,e3,_⟩:=AN H.out.1 S0 f3;have HN:Hid (AY base W0.heap.size w _):=((((HM.out).trans M0).trans M1).trans M2).trans M3
    clear a0 m0 M0 f0 a1 m1 M1 f1 a2 m2 M2 f2 a3 m3 M3 f3 hx S0;go_wp2
    go_roundw
    case rel=>exact⟨k+1,by omega,by go_num,by go_num,HN⟩
    case measure=>simp[intOf];omega
   ·have hkn:k=n:=by omega
    subst hkn;go_wp2
    go_ret
    exact⟨rfl,HM.out⟩
theorem DP:(Tryz.prog.info? 128).map (fun i=>(i.zero,i.size,i.bytes))=some (some (.agg #[.int .i64 0,.int .u32 0]),2,16):=by kernel_rfl
theorem J7(x:MC)(w:World):
  Calls Tryz.prog 84 #[.agg #[.int .i64 x.type,.int .u32 x.word]] w fun e w'=>e=.returned (.agg #[.int .i64 x.type,.int .u32 x.word])/\Below w.heap.size w w':=by
 go_enter Tryz.func84,Tryz.ntmps84;go_wp2
 exact bodyPost_ret (v:=.agg #[.int .i64 x.type,.int .u32 x.word]) (by simp[results,Tryz.results84,go_sem]) rfl ⟨rfl,(((Below.refl _ _).alloc lR _).alloc (by simp) _).alloc (by simp;omega) _⟩
theorem Jg(x:MC)(w:World):
  Calls Tryz.prog 101 #[.agg #[.int .i64 x.type,.int .u32 x.word],.agg #[.int .i64 x.type,.int .u32 x.word]] w fun e w'=>e=.returned (.bool true)/\Below w.heap.size w w':=by
 go_enter Tryz.func101,Tryz.ntmps101;go_wp2
 go_ret
 exact⟨rfl,(((Below.refl _ _).alloc lR _).alloc (by simp) _)⟩
theorem Js(s:Value)(L:Nat)(ys:List MC)(w:World)(hL:L<=1048576)(h:Rd w 2 s L (ys.flatMap MC.cells))(hlen:ys.length=L):
  Calls Tryz.prog 38 #[s] w fun e w'=>e=.returned (.slice (some ⟨w.heap.size,0,none⟩) L L)/\w'.ownsRow w.heap.size 128 2 (.slice (some ⟨w.heap.size,0,none⟩) L L) L (ys.flatMap MC.cells)/\Below w.heap.size w w':=by
 obtain⟨i0,hi,hz0,hz1,hz2⟩:=info_parts DP;have H1:=h2 h hlen;obtain⟨a1,c1,rfl⟩:=h.is_slice;clear h hlen;go_enter Tryz.func38,Tryz.ntmps38;go_wp2_with (at_make;refine wpList_make_full _ rfl _ _ 36 rfl w.heap.size 128 i0 (.agg #[.int .i64 0,.int .u32 0]) 2 Tryz.underlying36 hi hz0 hz1 .i64 .i64 _ _ L rfl rfl rfl rfl (by rw[hz2];omega) (by unfold maxLen;omega) lR ?_;intro w1 hown hgrow);rw[Cz MC.cells [.int .i64 0,.int .u32 0] ys L (.agg #[.int .i64 0,.int .u32 0]) 2 rfl rfl (by omega)]at hown;have hB:Below w.heap.size w w1:=(Below.refl _ _).grown hgrow lR (fun k hk=>by cases hk);clear hgrow;go_loopw [4] (fun i wr=>∃k:Nat,k<=L/\i=.int .i64 k/\wr.ownsRow w.heap.size 128 2 (.slice (some ⟨w.heap.size,0,none⟩) L L) L (CU MC.cells [.int .i64 0,.int .u32 0] ys k L)/\Below w.heap.size w wr) (fun i _=>L-(intOf i).toNat)
 case atStart=>exact⟨0,by omega,rfl,hown,hB⟩
 case round=>
  clear hown hB;obtain⟨k,hk,rfl,hown,hbel⟩:=hrel;by_cases hlt:k<L
  ·obtain⟨x,hx⟩:∃x,ys[k]?=some x:=⟨_,gE (by rw[H1.out.2];exact hlt)⟩
   have hnext:=CV MC.cells [.int .i64 0,.int .u32 0] ys k L x hx;rw[CI MC.cells [.int .i64 0,.int .u32 0] ys k L hlt]at hown;have hA:((ys.take k).flatMap MC.cells).length=k*2:=by rw[Aw MC.cells 2 MC.cells_length,List.length_take,H1.out.2,Nat.min_eq_left hk]
   generalize (ys.take k).flatMap MC.cells=A at hown hnext hA;generalize (List.replicate (L-(k+1)) [Value.int .i64 0,Value.int .u32 0]).flatten=R at hown hnext;rcases H1.out.1.2 with⟨e0,_⟩|⟨g,o,c,e1,hc1⟩
   ·omega
   ·simp only[sJ,true_and]at e1
    obtain⟨rfl,rfl⟩:=e1;have i0:=Rd.elem MC.cells_length hc1 k x hx 0 _ rfl;have i1:=Rd.elem MC.cells_length hc1 k x hx 1 _ rfl;rw[<-hbel.cell (bL i0)]at i0;rw[<-hbel.cell (bL i1)]at i1;rw[Nat.add_zero]at i0;have HO:=h3 hown hA hnext;clear hown hA hnext hc1 hx;go_wp2_with fail
    refine(J7 x wr).mono ?_;rintro e u ⟨rfl,hbu⟩;have hown:=Ai HO.out.1 hbu lR;have hA:=HO.out.2.1;have f0:=hown.frozenAt (k*2);have f1:=hown.frozenAt (k*2+1);have d0:=hown.cellAt (k*2) (by omega);have d1:=hown.cellAt (k*2+1) (by omega);rw[List.getElem?_append_right (by omega),hA]at d0 d1;rw[Nat.sub_self]at d0;rw[Nat.add_sub_cancel_left]at d1;simp only[List.cons_append,gZ,gS]at d0 d1;have HB:=h2 (hbel.trans (hbu.mono hbel.size)) hown;clear hown hA hbu hbel i0 i1;go_wp2
    go_roundw
    case rel=>
     refine⟨k+1,by omega,by go_num,?_,(HB.out.1.setCell lR _).setCell lR _⟩;have s0:=(HB.out.2.stored (k*2) (.int .i64 x.type)).1;have s1:=(s0.stored (k*2+1) (.int .u32 x.word)).1;rw[Oe A R _ _ _ _ (k*2) HO.out.2.1]at s1;rw[HO.out.2.2];exact s1
    case measure=>simp[intOf];omega
  ·have hkn:k=L:=by omega
   subst hkn;rw[Dj _ _ _ _ H1.out.2]at hown;have HO:=AM hown;clear hown;go_wp2
   go_ret
   exact⟨rfl,HO.out,hbel⟩
theorem Ev(s:Value)(ys:List MC)(w:World)(hL:ys.length<=1048576)(h:Rd w 2 s ys.length (ys.flatMap MC.cells)):
  Calls Tryz.prog 38 #[s] w fun e w'=>∃a c,e=.returned (.slice a ys.length c)/\w'.ownsRow w.heap.size 128 2 (.slice a ys.length c) ys.length (ys.flatMap MC.cells)/\Below w.heap.size w w':=
 (Js s ys.length ys w hL h rfl).mono fun e w' h=>⟨_,_,h.1,h.2.1,h.2.2⟩
theorem Ei(s s':Value)(ys:List MC)(w:World)(hn:ys.length<=1048576)(h:Rd w 2 s ys.length (ys.flatMap MC.cells))(h':Rd w 2 s' ys.length (ys.flatMap MC.cells)):
  Calls Tryz.prog 46 #[s,s'] w fun e w'=>e=.returned (.bool true)/\Below w.heap.size w w':=by
 have H1:=AM h;have H2:=AM h';obtain⟨a1,c1,rfl⟩:=h.is_slice;obtain⟨a2,c2,rfl⟩:=h'.is_slice;clear h h';generalize hLL:ys.length=n at hn H1 H2;have HL:Hid (ys.length=n):=hLL;clear hLL;go_enter Tryz.func46,Tryz.ntmps46;go_wp2
 go_loopw [5] (fun i wr=>∃k:Nat,k<=n/\i=.int .i64 k/\Below w.heap.size w wr) (fun i _=>n-(intOf i).toNat)
 case atStart=>exact⟨0,by omega,rfl,Below.refl _ _⟩
 case round=>
  obtain⟨k,hk,rfl,hbel⟩:=hrel;have HB:Hid (Below w.heap.size w wr):=hbel;clear hbel;by_cases hlt:k<n
  ·obtain⟨x,hx⟩:∃x,ys[k]?=some x:=⟨_,gE (by rw[HL.out];exact hlt)⟩
   rcases H1.out.2 with⟨e0,_⟩|⟨g,o,c,e1,hc1⟩
   ·omega
   ·rcases H2.out.2 with⟨e0,_⟩|⟨g',o',c',e2,hc2⟩
    ·omega
    ·simp only[sJ,true_and]at e1 e2
     obtain⟨rfl,rfl⟩:=e1;obtain⟨rfl,rfl⟩:=e2;have i0:=Rd.elem MC.cells_length hc1 k x hx 0 _ rfl;have i1:=Rd.elem MC.cells_length hc1 k x hx 1 _ rfl;have j0:=Rd.elem MC.cells_length hc2 k x hx 0 _ rfl;have j1:=Rd.elem MC.cells_length hc2 k x hx 1 _ rfl;rw[<-HB.out.cell (bL i0),Nat.add_zero]at i0;rw[<-HB.out.cell (bL i1)]at i1;rw[<-HB.out.cell (bL j0),Nat.add_zero]at j0;rw[<-HB.out.cell (bL j1)]at j1;clear hc1 hc2 hx;go_wp2_with fail
     go_region_with (go_at_call 101;refine(Jg x _).mono ?_;rintro e u ⟨rfl,hbu⟩)
     all_goals
      have HB2:Hid (Below w.heap.size w u):=HB.out.trans (Ar hbu HB.out.size);clear hbu HB i0 i1 j0 j1;go_wp2
      go_roundw
      case rel=>exact⟨k+1,by omega,by go_num,HB2.out⟩
      case measure=>simp[intOf];omega
  ·go_wp2
   go_ret
   exact⟨rfl,HB.out⟩
theorem DA(a:Option Addr)(n c:Nat)(left:Int)(w:World)(hn:n<=9223372036854775807)(h0:0<=left)(h1:left<=1048576):
  Calls Tryz.prog 27 #[.slice a n c,.int .i64 left] w fun e w'=>e=.returned (.int .i64 (Fx left n))/\w'=w:=by
 by_cases hb:left-n<0
 ·have e:Fx left n=-1:=if_pos hb
  rw[e];go_enter Tryz.func27,Tryz.ntmps27;go_wp2
  go_ret
  exact⟨rfl,rfl⟩
 ·have e:Fx left n=left-n:=if_neg hb
  rw[e];go_enter Tryz.func27,Tryz.ntmps27;go_wp2
  go_ret
  exact⟨rfl,rfl⟩
section
variable {u:World} {b:Nat} {t:TypeId} {x0 x1 x2 x3 x4 x5 x6 x7 x8:Value}
theorem Aq.c2(h:Aq u b #[x0,x1] t):u.cell? ⟨b,0,none⟩=some x0/\u.cell? ⟨b,1,none⟩=some x1:=⟨h.cell 0,h.cell 1⟩
theorem Aq.c3(h:Aq u b #[x0,x1,x2] t):u.cell? ⟨b,0,none⟩=some x0/\u.cell? ⟨b,1,none⟩=some x1/\u.cell? ⟨b,2,none⟩=some x2:=⟨h.cell 0,h.cell 1,h.cell 2⟩
theorem Aq.c4(h:Aq u b #[x0,x1,x2,x3] t):u.cell? ⟨b,0,none⟩=some x0/\u.cell? ⟨b,1,none⟩=some x1/\u.cell? ⟨b,2,none⟩=some x2/\u.cell? ⟨b,3,none⟩=some x3:=⟨h.cell 0,h.cell 1,h.cell 2,h.cell 3⟩
theorem Aq.c7(h:Aq u b #[x0,x1,x2,x3,x4,x5,x6] t):u.cell? ⟨b,0,none⟩=some x0/\u.cell? ⟨b,1,none⟩=some x1/\u.cell? ⟨b,2,none⟩=some x2/\u.cell? ⟨b,3,none⟩=some x3/\u.cell? ⟨b,4,none⟩=some x4/\u.cell? ⟨b,5,none⟩=some x5/\u.cell? ⟨b,6,none⟩=some x6:=⟨h.cell 0,h.cell 1,h.cell 2,h.cell 3,h.cell 4,h.cell 5,h.cell 6⟩
theorem Aq.c8(h:Aq u b #[x0,x1,x2,x3,x4,x5,x6,x7] t):u.cell? ⟨b,0,none⟩=some x0/\u.cell? ⟨b,1,none⟩=some x1/\u.cell? ⟨b,2,none⟩=some x2/\u.cell? ⟨b,3,none⟩=some x3/\u.cell? ⟨b,4,none⟩=some x4/\u.cell? ⟨b,5,none⟩=some x5/\u.cell? ⟨b,6,none⟩=some x6/\u.cell? ⟨b,7,none⟩=some x7:=⟨h.cell 0,h.cell 1,h.cell 2,h.cell 3,h.cell 4,h.cell 5,h.cell 6,h.cell 7⟩
theorem Aq.z2{cur:Array Value}(h:Aq u b cur t):u.frozen? ⟨b,0,none⟩=false/\u.frozen? ⟨b,1,none⟩=false:=⟨h.frozen 0,h.frozen 1⟩
theorem Aq.z4{cur:Array Value}(h:Aq u b cur t):u.frozen? ⟨b,0,none⟩=false/\u.frozen? ⟨b,1,none⟩=false/\u.frozen? ⟨b,2,none⟩=false/\u.frozen? ⟨b,3,none⟩=false:=⟨h.frozen 0,h.frozen 1,h.frozen 2,h.frozen 3⟩
theorem Aq.z7{cur:Array Value}(h:Aq u b cur t):u.frozen? ⟨b,0,none⟩=false/\u.frozen? ⟨b,1,none⟩=false/\u.frozen? ⟨b,2,none⟩=false/\u.frozen? ⟨b,3,none⟩=false/\u.frozen? ⟨b,4,none⟩=false/\u.frozen? ⟨b,5,none⟩=false/\u.frozen? ⟨b,6,none⟩=false:=⟨h.frozen 0,h.frozen 1,h.frozen 2,h.frozen 3,h.frozen 4,h.frozen 5,h.frozen 6⟩
theorem Aq.w7(h:Aq u b #[x0,x1,x2,x3,x4,x5,x6] t)(y0 y1 y2 y3 y4 y5 y6:Value):Aq (((((((u.setCell ⟨b,0,none⟩ y0).setCell ⟨b,1,none⟩ y1).setCell ⟨b,2,none⟩ y2).setCell ⟨b,3,none⟩ y3).setCell ⟨b,4,none⟩ y4).setCell ⟨b,5,none⟩ y5).setCell ⟨b,6,none⟩ y6) b #[y0,y1,y2,y3,y4,y5,y6] t:=by
  have:=((((((h.set 0 y0).set 1 y1).set 2 y2).set 3 y3).set 4 y4).set 5 y5).set 6 y6;simpa using this
theorem KB{B:Nat}{w:World}(h:Below B w u)(hb:B<=b)(y0 y1 y2 y3 y4 y5 y6:Value):Below B w (((((((u.setCell ⟨b,0,none⟩ y0).setCell ⟨b,1,none⟩ y1).setCell ⟨b,2,none⟩ y2).setCell ⟨b,3,none⟩ y3).setCell ⟨b,4,none⟩ y4).setCell ⟨b,5,none⟩ y5).setCell ⟨b,6,none⟩ y6):=((((((h.setCell hb _).setCell hb _).setCell hb _).setCell hb _).setCell hb _).setCell hb _).setCell hb _
end
def Bm(p:MP)(r c:Int):Int:=if r<0\/2<r\/c<0 then 0 else(p.regions.getD r.toNat []).getD c.toNat 0
theorem DK{p:MP}{r c:Int}(h:r<0\/2<r\/c<0):Bm p r c=0:=if_pos h
theorem DG{p:MP}{r c:Nat}(h:r<=2){l:List Int}(hl:p.regions[r]?=some l):Bm p r c=l.getD c 0:=by
 unfold Bm;have e:p.regions.getD r []=l:=by rw[List.getD_eq_getElem?_getD,hl];rfl
 rw[if_neg (by omega),Int.toNat_natCast,Int.toNat_natCast,e]
theorem FQ(v:VP)(p:MP)(r c:Int)(w:World)(hs:p.small)(h3:p.regions.length=3)(hr:Dn r)(hc:Dn c)(h:Cx w v p):
  Calls Tryz.prog 180 #[.agg #[v.r,v.k,v.f,v.t],.int .i64 r,.int .i64 c] w fun e w'=>e=.returned (.int .i64 (Bm p r c))/\Below w.heap.size w w':=by
 have hr':-9223372036854775808<=r/\r<=9223372036854775807:=by simpa[Dn,Lit.wf,IntKind.min,IntKind.max,IntKind.signed,IntKind.bits]using hr
 have hc':-9223372036854775808<=c/\c<=9223372036854775807:=by simpa[Dn,Lit.wf,IntKind.min,IntKind.max,IntKind.signed,IntKind.bits]using hc
 obtain⟨r0,r1⟩:=hr';obtain⟨c0,c1⟩:=hc';clear hr hc;obtain⟨vr,vk,vf,vt⟩:=v;obtain⟨xs,hxs,hrd,hel⟩:=h.regions;simp only[]at hrd;rw[h3]at hrd;have hxl:xs.length=3:=by rw[<-h3,<-hxs];simp
 have H1:=h5 hrd hxs hel hs.region hxl;clear hrd hxs hel hxl hs h h3;have HB:Hid _:=(ON.of w 45 #[vr,vk,vf,vt] rfl).bel;by_cases q0:r<0
 ·rw[DK (.inl q0)]
  go_enter Tryz.func180,Tryz.ntmps180;go_wp2
  go_ret
  exact⟨rfl,HB.out⟩
 by_cases q1:2<r
 ·rw[DK (.inr (.inl q1))]
  go_enter Tryz.func180,Tryz.ntmps180;go_wp2
  go_ret
  exact⟨rfl,HB.out⟩
 by_cases q2:c<0
 ·rw[DK (.inr (.inr q2))]
  go_enter Tryz.func180,Tryz.ntmps180;go_wp2
  go_ret
  exact⟨rfl,HB.out⟩
 obtain⟨i,rfl⟩:=Int.eq_ofNat_of_zero_le (show 0<=r by omega);obtain⟨j,rfl⟩:=Int.eq_ofNat_of_zero_le (show 0<=c by omega);obtain⟨⟨l,y⟩,hx⟩:∃x,xs[i]?=some x:=⟨_,gE (by rw[H1.out.2.2.2.2];omega)⟩;have e1:=AO H1.out.2.1 hx;have hy:=H1.out.2.2.1 _ (mG hx);have hll:=H1.out.2.2.2.1 _ (mG e1);simp only[]at e1 hy hll;rw[DG (by omega) e1];rcases H1.out.1.2 with⟨e0,_⟩|⟨g,o,cc,e2,hc1⟩
 ·omega
 subst e2;have a0:=Rd.elem AK hc1 i _ hx 0 _ rfl;rw[Nat.mul_one,Nat.add_zero]at a0;simp only[]at a0;clear hc1 hx e1;obtain⟨ay,cy,rfl⟩:=hy.is_slice;have a1:=(HB.out.cell (bL a0)).trans a0;by_cases q3:j<l.length
 ·obtain⟨z,hz⟩:∃z,l[j]?=some z:=⟨_,gE q3⟩
  have ez:l.getD j 0=z:=by rw[List.getD_eq_getElem?_getD,hz];rfl
  rw[ez];rcases hy.2 with⟨e0,_⟩|⟨g2,o2,c2,e3,hc2⟩
  ·omega
  simp only[sJ,true_and]at e3;obtain⟨rfl,rfl⟩:=e3;have b0:=Rd.elem Ap hc2 j z hz 0 _ rfl;rw[Nat.mul_one,Nat.add_zero]at b0;have b1:=(HB.out.cell (bL b0)).trans b0;clear hc2 hz b0 a0 ez;have HY:Hid _:=hy;clear hy;generalize l.length=n at*;go_enter Tryz.func180,Tryz.ntmps180;go_wp2
  go_ret
  exact⟨rfl,HB.out⟩
 ·have ez:l.getD j 0=0:=by rw[List.getD_eq_getElem?_getD,List.getElem?_eq_none (by omega)];rfl
  rw[ez];clear ez a0 hy;generalize l.length=n at*;go_enter Tryz.func180,Tryz.ntmps180;go_wp2
  go_ret
  exact⟨rfl,HB.out⟩
end Go.Proofs.YtlejplpkomddeaaGreat
