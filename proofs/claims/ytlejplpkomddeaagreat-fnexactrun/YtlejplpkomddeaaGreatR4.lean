import Derived.Test.YtlejplpkomddeaaGreatR3
import Derived.Test.YtlejplpkomddeaaGreatR0
namespace Go.Proofs.YtlejplpkomddeaaGreat
open Go.ChangeShapes Go.WideShapes Go.ChangeAt Go.RowKit
set_option linter.unusedVariables false
set_option maxHeartbeats 4000000
set_option maxRecDepth 100000
theorem At{w:World}{base:Nat}{e:TypeId}{s:Value}{k n:Nat}{xs:List Value}(h:w.ownsRow base e k s n xs):(s=.slice none 0 0/\n=0)\/∃g c,s=.slice (some ⟨g,0,none⟩) n c:=by
 rcases h.2 with h|⟨g,cap,cur,rfl,hb,_⟩
 ·exact .inl h
 ·exact .inr ⟨g,cap,rfl⟩
theorem Al{w:World}{base:Nat}{e:TypeId}{s:Value}{k n:Nat}{xs:List Value}(h:w.ownsRow base e k s n xs):∃a c,s=.slice a n c:=by
 rcases At h with⟨rfl,rfl⟩|⟨g,c,rfl⟩<;>exact⟨_,_,rfl⟩
def DM(x y:Value):Prop:=x=y\/∃k a b,x=.int k a/\y=.int k b
theorem DM.trans{x y z:Value}(h:DM x y)(h':DM y z):DM x z:=by
 rcases h with rfl|⟨k,a,b,rfl,rfl⟩
 ·exact h'
 ·rcases h' with rfl|⟨k',a',b',e,rfl⟩
  ·exact .inr ⟨k,a,b,rfl,rfl⟩
  ·cases e
   exact .inr ⟨k,a,b',rfl,rfl⟩
theorem DM.int{k:IntKind}{a:Int}{y:Value}(h:DM (.int k a) y):∃b,y=.int k b:=by
 rcases h with rfl|⟨k',a',b',e,rfl⟩
 ·exact⟨_,rfl⟩
 ·cases e
  exact⟨_,rfl⟩
theorem DM.slice{a:Option Addr}{n c:Nat}{y:Value}(h:DM (.slice a n c) y):y=.slice a n c:=by
 rcases h with rfl|⟨k',a',b',e,rfl⟩
 ·rfl
 ·cases e
def Fd(xs ys:Array Value):Prop:=xs.size=ys.size/\∀(i:Nat) x y,xs[i]?=some x->ys[i]?=some y->DM x y
theorem Fd.refl(xs:Array Value):Fd xs xs:=⟨rfl,fun i x y h1 h2=>by rw[h1]at h2;exact .inl (Option.some.inj h2)⟩
theorem Fd.at{xs ys:Array Value}(h:Fd xs ys){i:Nat}{x:Value}(hx:xs[i]?=some x):∃y,ys[i]?=some y/\DM x y:=by
 have hi:i<ys.size:=by rw[<-h.1];exact(Array.getElem?_eq_some_iff.1 hx).1
 exact⟨_,Array.getElem?_eq_getElem hi,h.2 i x _ hx (Array.getElem?_eq_getElem hi)⟩
theorem Fd.trans{xs ys zs:Array Value}(h:Fd xs ys)(h':Fd ys zs):Fd xs zs:=by
 refine⟨h.1.trans h'.1,fun i x z hx hz=> ?_⟩;obtain⟨y,hy,a1⟩:=h.at hx;exact a1.trans (h'.2 i y z hy hz)
structure Bm(w w':World):Prop where
 size:w.heap.size<=w'.heap.size
 block:∀(k:Nat) (cur:Array Value) (t:TypeId),w.heap[k]?=some (Obj.cells cur t (0,0))->∃cur',w'.heap[k]?=some (Obj.cells cur' t (0,0))/\Fd cur cur'
theorem Bm.refl(w:World):Bm w w:=⟨Nat.le_refl _,fun k cur t h=>⟨cur,h,.refl _⟩⟩
theorem Bm.trans{w u v:World}(h:Bm w u)(h':Bm u v):Bm w v:=by
 refine⟨Nat.le_trans h.size h'.size,fun k cur t hk=> ?_⟩;obtain⟨c1,h1,a1⟩:=h.block k cur t hk;obtain⟨c2,h2,a2⟩:=h'.block k c1 t h1;exact⟨c2,h2,a1.trans a2⟩
theorem Bm.of_below{w w':World}(h:Below w.heap.size w w'):Bm w w':=
 ⟨h.size,fun k cur t hk=>⟨cur,by rw[h.block k (Array.getElem?_eq_some_iff.1 hk).1];exact hk,.refl _⟩⟩
structure Ba(lo hi:Nat)(w w':World):Prop where
 os:w'.os=w.os
 tape:w'.tape=w.tape
 output:w'.output=w.output
 size:w'.heap.size=w.heap.size
 out:∀(k:Nat),k<lo\/hi<=k->w'.heap[k]?=w.heap[k]?
 shaped:Bm w w'
theorem Ba.refl(lo hi:Nat)(w:World):Ba lo hi w w:=⟨rfl,rfl,rfl,rfl,fun _ _=>rfl,.refl _⟩
theorem Ba.trans{lo hi:Nat}{w u v:World}(h:Ba lo hi w u)(h':Ba lo hi u v):Ba lo hi w v:=
 ⟨h'.os.trans h.os,h'.tape.trans h.tape,h'.output.trans h.output,h'.size.trans h.size,fun k hk=>(h'.out k hk).trans (h.out k hk),h.shaped.trans h'.shaped⟩
theorem Ba.set{lo hi:Nat}{w:World}{g i:Nat}{cur:Array Value}{t:TypeId}{v x:Value}(hb:w.heap[g]?=some (Obj.cells cur t (0,0)))(hx:cur[i]?=some x)(ha:DM x v)(hg:lo<=g)(hh:g<hi):Ba lo hi w (w.setCell ⟨g,i,none⟩ v):=by
 refine⟨rfl,rfl,rfl,by simp,fun k hk=>heap_setCell_other w _ k v (by simp only[];omega),by simp,fun k c' t' hk=> ?_⟩;by_cases e:k=g
 ·subst e
  rw[hb]at hk;simp only[Option.some.injEq,Obj.cells.injEq,and_true]at hk;obtain⟨rfl,rfl⟩:=hk;refine⟨_,heap_setCell_same w k i cur t v hb,by simp,fun j a b h1 h2=> ?_⟩;by_cases ej:j=i
  ·subst ej
   rw[hx]at h1;obtain rfl:=Option.some.inj h1;have hlt:=(Array.getElem?_eq_some_iff.1 hx).1;rw[Array.getElem?_setIfInBounds_self_of_lt hlt]at h2;obtain rfl:=Option.some.inj h2;exact ha
  ·rw[Array.getElem?_setIfInBounds_ne (Ne.symm ej),h1]at h2
   exact .inl (Option.some.inj h2)
 ·exact⟨c',by rw[heap_setCell_other w _ k v e];exact hk,.refl _⟩
theorem Bf{w wr:World}{base:Nat}{e:TypeId}{k n c g:Nat}{xs:List Value}(h:w.ownsRow base e k (.slice (some ⟨g,0,none⟩) n c) n xs)(hs:Bm w wr){i:Nat}{x:Value}(hx:xs[i]?=some x):
 ∃y,wr.cell? ⟨g,i,none⟩=some y/\DM x y/\wr.frozen? ⟨g,i,none⟩=false/\∀lo hi v,lo<=base->w.heap.size<=hi->DM x v->Ba lo hi wr (wr.setCell ⟨g,i,none⟩ v):=by
 rcases h.2 with⟨h',_⟩|⟨g',cap,cur,e1,hb,hg,hnc,hcm,hcs,ht⟩
 ·cases h'
 ·cases e1
  obtain⟨cur',h1,ha⟩:=hs.block _ _ _ hg
  have hc:cur[i]?=some x:=by
   rw[<-ht]at hx;have:=(gI.1 hx).1;rw[List.getElem?_take_of_lt (by simp at this;omega)]at hx;simpa using hx
  obtain⟨y,hy,al⟩:=ha.at hc;refine⟨y,by rw[cell_of_row wr g i cur' e _ h1];exact hy,al,by simp[World.frozen?,h1],fun lo hi v h2 h3 hv=> ?_⟩;refine Ba.set h1 hy ?_ (Nat.le_trans h2 hb) (Nat.lt_of_lt_of_le (Array.getElem?_eq_some_iff.1 hg).1 h3);rcases al with rfl|⟨k',a,b,rfl,rfl⟩
  ·exact hv
  ·obtain⟨z,rfl⟩:=hv.int
   exact .inr ⟨k',b,z,rfl,rfl⟩
structure Dn(lo hi:Nat)(w w':World):Prop where
 os:w'.os=w.os
 tape:w'.tape=w.tape
 output:w'.output=w.output
 size:w.heap.size<=w'.heap.size
 out:∀(k:Nat),k<w.heap.size->k<lo\/hi<=k->w'.heap[k]?=w.heap[k]?
 shaped:Bm w w'
theorem Dn.of{lo hi B:Nat}{w u w':World}(hb:Below B w u)(hB:w.heap.size<=B)(h:Ba lo hi u w'):Dn lo hi w w':=
 ⟨h.os.trans hb.os,h.tape.trans hb.tape,h.output.trans hb.output,by rw[h.size];exact hb.size,fun k hk hh=>(h.out k hh).trans (hb.block k (Nat.lt_of_lt_of_le hk hB)),(Bm.of_below (hb.mono hB)).trans h.shaped⟩
theorem Dn.below{lo hi:Nat}{w w':World}(h:Dn lo hi w w')(hl:lo<=w.heap.size):Below lo w w':=⟨h.os,h.tape,h.output,h.size,fun k hk=>h.out k (Nat.lt_of_lt_of_le hk hl) (.inl hk)⟩
theorem Dn.cell{lo hi:Nat}{w w':World}(h:Dn lo hi w w'){a:Addr}{x:Value}(hx:w.cell? a=some x)(ha:a.block<lo\/hi<=a.block):w'.cell? a=some x:=by
 have:=h.out a.block (bL hx) ha;unfold World.cell? at*;rw[this];exact hx
theorem Dn.own{lo hi:Nat}{w w':World}(h:Dn lo hi w w'){B:Nat}{e:TypeId}{s:Value}{k n:Nat}{xs:List Value}(ho:w.ownsRow B e k s n xs)(hB:hi<=B):w'.ownsRow B e k s n xs:=by
 refine⟨ho.1,?_⟩;rcases ho.2 with h'|⟨g,cap,cur,e1,hb1,hg,hr⟩
 ·exact .inl h'
 ·refine .inr ⟨g,cap,cur,e1,hb1,?_,hr⟩
  rw[h.out g (Array.getElem?_eq_some_iff.1 hg).1 (.inr (Nat.le_trans hB hb1))];exact hg
def Ap(w:World)(b:Nat)(cur:Array Value)(t:TypeId):Prop:=w.heap[b]?=some (.cells cur t (0,0))
theorem Ap.new(w:World)(cur:Array Value)(t:TypeId):Ap (w.alloc (.cells cur t)) w.heap.size cur t:=Array.getElem?_push_size
theorem Ap.lt{w:World}{b:Nat}{cur:Array Value}{t:TypeId}(h:Ap w b cur t):b<w.heap.size:=(Array.getElem?_eq_some_iff.1 h).1
theorem Ap.keep{w w':World}{b:Nat}{cur:Array Value}{t:TypeId}(h:Ap w b cur t)(hb:Below w.heap.size w w'):Ap w' b cur t:=by
 unfold Ap at*;rw[hb.block b (Array.getElem?_eq_some_iff.1 h).1];exact h
theorem Ap.cell{w:World}{b:Nat}{cur:Array Value}{t:TypeId}(h:Ap w b cur t)(i:Nat):w.cell? ⟨b,i,none⟩=cur[i]?:=cell_of_row w b i cur t _ h
theorem Ap.frozen{w:World}{b:Nat}{cur:Array Value}{t:TypeId}(h:Ap w b cur t)(i:Nat):w.frozen? ⟨b,i,none⟩=false:=frozen_of_row w b i cur t h
theorem Ap.set{w:World}{b:Nat}{cur:Array Value}{t:TypeId}(h:Ap w b cur t)(i:Nat)(x:Value):Ap (w.setCell ⟨b,i,none⟩ x) b (cur.setIfInBounds i x) t:=heap_setCell_same w b i cur t x h
theorem Ap.other{w:World}{b:Nat}{cur:Array Value}{t:TypeId}(h:Ap w b cur t){a:Addr}(ha:b≠a.block)(x:Value):Ap (w.setCell a x) b cur t:=by
 unfold Ap at*;rw[heap_setCell_other w a b x ha];exact h
theorem Ap.grown{w w':World}{b:Nat}{cur:Array Value}{t e:TypeId}(h:Ap w b cur t){B k m:Nat}{v:Value}{bs:List Value}(hg:w.grownBy w' v.ownBlock)(ho:w.ownsRow B e k v m bs)(hne:t≠e):Ap w' b cur t:=by
 unfold Ap at*;rw[hg.block b (Array.getElem?_eq_some_iff.1 h).1 ?_]
 ·exact h
 ·intro hv
  rcases ho.2 with⟨rfl,_⟩|⟨g',cap',cur',rfl,_,hg',_⟩
  ·cases hv
  ·simp only[Value.ownBlock,Option.some.injEq]at hv
   subst hv;rw[h]at hg';simp only[Option.some.injEq,Obj.cells.injEq]at hg';exact hne hg'.2.1
structure He(w:World)(b:Nat)(x y z:Value):Prop where
 c0:w.cell? ⟨b,0,none⟩=some x
 c1:w.cell? ⟨b,1,none⟩=some y
 c2:w.cell? ⟨b,2,none⟩=some z
theorem He.lt{w:World}{b:Nat}{x y z:Value}(h:He w b x y z):b<w.heap.size:=bL h.c0
theorem He.keep{w w':World}{b:Nat}{x y z:Value}(h:He w b x y z)(hb:Below w.heap.size w w'):He w' b x y z:=
 ⟨by rw[hb.cell h.lt];exact h.c0,by rw[hb.cell h.lt];exact h.c1,by rw[hb.cell h.lt];exact h.c2⟩
theorem He.new(w:World)(x y z:Value)(ty:TypeId):He (w.alloc (.cells #[x,y,z] ty)) w.heap.size x y z:=by
 have h:=World.ownsRow_lit (base:=w.heap.size) (e:=ty) (size:=3) w #[x,y,z] 1 (Nat.le_refl _) (by unfold maxLen;omega) (by simp);exact⟨h.cellAt 0 (by omega),h.cellAt 1 (by omega),h.cellAt 2 (by omega)⟩
structure Aj(w:World) where
 u:World
 h:Below w.heap.size w u
theorem Aj.some(w:World):Nonempty (Aj w):=⟨⟨w,Below.refl _ _⟩⟩
theorem Am{P:Program}{id:Nat}{Q:Exit->Act->World->Prop}{a:Act}{w:World}{l:List Oper}(hm:P.follows .mixedOrders=true)(hB:Region.lexB .any l.toArray=true)
 (h:wpQuiet P l.toArray (fun w'=>∃n:Aj w,w'=n.u) (fun a'=>∀w',(∃n:Aj w,w'=n.u)->Q .normal a' w') l a):(Code.region id l.toArray true).wp P Q a w:=
 wp_region_quiet (C:=fun w'=>∃n:Aj w,w'=n.u) hm hB ⟨⟨_,Ad w⟩,rfl⟩ (by simpa using h)
theorem Ar.true{e:Ending}{q:Prop}(h:Ar e q)(hq:q):e=.returned (.bool true):=by
 obtain⟨b,rfl,hb⟩:=h;rw[hb.2 hq]
theorem Ar.false{e:Ending}{q:Prop}(h:Ar e q)(hq:¬q):e=.returned (.bool false):=by
 obtain⟨b,rfl,hb⟩:=h;cases b
 ·rfl
 ·exact absurd (hb.1 rfl) hq
theorem Aj.cell{w:World}{a:Addr}{x:Value}(h:w.cell? a=Option.some x)(n:Aj w):n.u.cell? a=Option.some x:=by rw[n.h.cell (bL h)];exact h
def Av(f:MF)(k:Int):Int:=if k<0 then 0 else(f.params++f.locals).getD k.toNat 0
theorem Fp{f:MF}{k:Int}(h:k<0):Av f k=0:=if_pos h
theorem G5{f:MF}{k:Nat}{x:Int}(h:f.params[k]?=some x):Av f k=x:=by
 obtain⟨hlt,rfl⟩:=gI.1 h;unfold Av;rw[if_neg (by omega),List.getD_eq_getElem?_getD,Int.toNat_natCast,List.getElem?_append_left hlt,gE hlt];rfl
theorem GN{f:MF}{k:Nat}{x:Int}(h:f.locals[k]?=some x):Av f ((f.params.length:Int)+k)=x:=by
 obtain⟨hlt,rfl⟩:=gI.1 h;unfold Av;have e:((f.params.length:Int)+k).toNat=f.params.length+k:=by omega
 rw[if_neg (by omega),List.getD_eq_getElem?_getD,e,List.getElem?_append_right (by omega),Nat.add_sub_cancel_left,gE hlt];rfl
theorem GY{f:MF}{k:Int}(h:(f.params.length:Int)+f.locals.length<=k):Av f k=0:=by
 unfold Av;rw[if_neg (by omega),List.getD_eq_getElem?_getD,List.getElem?_eq_none (by rw[List.length_append];omega)];rfl
theorem Dh(v:VF)(f:MF)(k:Int)(w:World)(hs:f.small)(hk:Dr k)(h:CP w v f):
 Calls Tryz.prog 74 #[.agg #[v.p,.int .i64 f.result,v.l,v.c],.int .i64 k] w fun e w'=>e=.returned (.int .i64 (Av f k))/\Below w.heap.size w w':=by
 have hk':-9223372036854775808<=k/\k<=9223372036854775807:=by simpa[Dr,Lit.wf,IntKind.min,IntKind.max,IntKind.signed,IntKind.bits]using hk
 obtain⟨k0,k1⟩:=hk';obtain⟨s1,s2,s3⟩:=hs;have H1:=AS h;obtain⟨a1,c1,e1⟩:=h.1.is_slice;obtain⟨a2,c2,e2⟩:=h.2.1.is_slice;obtain⟨vp,vl,vc⟩:=v;simp only[]at e1 e2;subst e1;subst e2;clear h hk s3;have F0:=Po.of w 131 #[.slice a1 f.params.length c1,.int .i64 f.result,.slice a2 f.locals.length c2,vc] rfl;have HB:Hid _:=F0.bel;clear F0;generalize hn1:f.params.length=n1 at*;generalize hn2:f.locals.length=n2 at*;have HN:=h2 hn1 hn2;clear hn1 hn2;by_cases q0:k<0
 ·rw[Fp q0]
  go_enter Tryz.func74,Tryz.ntmps74;go_wp2
  go_ret
  exact⟨rfl,HB.out⟩
 ·obtain⟨j,rfl⟩:=Int.eq_ofNat_of_zero_le (show 0<=k by omega)
  by_cases q1:j<n1
  ·obtain⟨x,hx⟩:∃x,f.params[j]?=some x:=⟨_,gE (by rw[HN.out.1];exact q1)⟩
   rw[G5 hx];rcases H1.out.1.2 with⟨e0,_⟩|⟨g,o,c,e1,hc1⟩
   ·rw[HN.out.1]at e0
    omega
   ·simp only[sJ]at e1
    obtain⟨rfl,hh,rfl⟩:=e1;clear hh;have i0:=Rd.elem An hc1 j x hx 0 _ rfl;rw[Nat.mul_one,Nat.add_zero]at i0;have i1:=(HB.out.cell (bL i0)).trans i0;clear hc1 hx i0;go_enter Tryz.func74,Tryz.ntmps74;go_wp2
    go_ret
    exact⟨rfl,HB.out⟩
  ·by_cases q2:j<n1+n2
   ·obtain⟨x,hx⟩:∃x,f.locals[j-n1]?=some x:=⟨_,gE (by rw[HN.out.2];omega)⟩
    have hl:=GN hx;rw[HN.out.1]at hl;have ej:((n1:Int)+((j-n1:Nat):Int))=(j:Int):=by omega
    rw[ej]at hl;rw[hl];rcases H1.out.2.1.2 with⟨e0,_⟩|⟨g,o,c,e1,hc1⟩
    ·rw[HN.out.2]at e0
     omega
    ·simp only[sJ]at e1
     obtain⟨rfl,hh,rfl⟩:=e1;clear hh;have i0:=Rd.elem An hc1 (j-n1) x hx 0 _ rfl;rw[Nat.mul_one,Nat.add_zero]at i0;have i1:=(HB.out.cell (bL i0)).trans i0;clear hc1 hx i0 hl ej;go_enter Tryz.func74,Tryz.ntmps74;go_wp2
     go_ret
     exact⟨rfl,HB.out⟩
   ·rw[GY (by rw[HN.out.1,HN.out.2];omega)]
    go_enter Tryz.func74,Tryz.ntmps74;go_wp2
    go_ret
    exact⟨rfl,HB.out⟩
theorem Eh(W0:World)(base:Nat)(s:Value)(cs:List Int)(k0:Int)(w:World)(hn:cs.length<=1048576)(h0:0<=k0)(h1:k0<=1152921504606846976)(h:W0.ownsRow base 2 1 s cs.length (cs.flatMap Ae))(hs:Bm W0 w):
 Calls Tryz.prog 107 #[s,.int .i64 k0] w fun e w'=>e=.returned (.int .i64 (k0+(cs.length:Int)))/\Ba base W0.heap.size w w':=by
 have H:=h2 h hs;rcases At h with⟨rfl,hz⟩|⟨g,c,rfl⟩
 ·clear h hs
  rw[hz];go_enter Tryz.func107,Tryz.ntmps107;go_wp2
  go_loopw [1,5] (fun q i wr=>q=.int .i64 k0/\i=.int .i64 0/\wr=w) (fun _ _ _=>0)
  case atStart=>exact⟨rfl,rfl,rfl⟩
  case round=>
   obtain⟨rfl,rfl,rfl⟩:=hrel;go_wp2
   go_ret
   exact⟨by simp,Ba.refl _ _ _⟩
 ·clear h hs
  generalize hLL:cs.length=n at hn H⊢;have HL:Hid (cs.length=n):=hLL;clear hLL;go_enter Tryz.func107,Tryz.ntmps107;go_wp2
  go_loopw [1,5] (fun q i wr=>∃k:Nat,k<=n/\q=.int .i64 (k0+k)/\i=.int .i64 k/\Hid (Ba base W0.heap.size w wr)) (fun _ i _=>n-(intOf i).toNat)
  case atStart=>exact⟨0,by omega,by simp,rfl,Ba.refl _ _ _⟩
  case round=>
   obtain⟨k,hk,rfl,rfl,HM⟩:=hrel;by_cases hlt:k<n
   ·obtain⟨x,hx⟩:∃x,cs[k]?=some x:=⟨_,gE (by rw[HL.out];exact hlt)⟩
    have S0:=H.out.2.trans HM.out.shaped;have f0:=AF Ae 1 An cs k 0 x hx (by omega);rw[Nat.mul_one,Nat.add_zero]at f0;obtain⟨y0,c0,a0,z0,m0⟩:=Bf H.out.1 (S0) f0;have M0:=m0 base W0.heap.size (.int .i64 (k0+k)) lR lR (.inr ⟨.i64,x,_,rfl,rfl⟩);have HN:=AS ((HM.out).trans M0);clear a0 m0 M0 f0 hx S0;go_wp2
    go_roundw
    case rel=>exact⟨k+1,by omega,by go_num,by go_num,HN⟩
    case measure=>simp[intOf];omega
   ·have hkn:k=n:=by omega
    subst hkn;go_wp2
    go_ret
    exact⟨rfl,HM.out⟩
theorem Ia(W0:World)(base:Nat)(s:Value)(cs:List MC)(k0:Int)(w:World)(hn:cs.length<=1048576)(h0:0<=k0)(h1:k0<=1152921504606846976)(h:W0.ownsRow base 143 2 s cs.length (cs.flatMap MC.cells))(hs:Bm W0 w):
 Calls Tryz.prog 53 #[s,.int .i64 k0] w fun e w'=>e=.returned (.int .i64 (k0+2*(cs.length:Int)))/\Ba base W0.heap.size w w':=by
 have H:=h2 h hs;rcases At h with⟨rfl,hz⟩|⟨g,c,rfl⟩
 ·clear h hs
  rw[hz];go_enter Tryz.func53,Tryz.ntmps53;go_wp2
  go_loopw [1,5] (fun q i wr=>q=.int .i64 k0/\i=.int .i64 0/\wr=w) (fun _ _ _=>0)
  case atStart=>exact⟨rfl,rfl,rfl⟩
  case round=>
   obtain⟨rfl,rfl,rfl⟩:=hrel;go_wp2
   go_ret
   exact⟨by simp,Ba.refl _ _ _⟩
 ·clear h hs
  generalize hLL:cs.length=n at hn H⊢;have HL:Hid (cs.length=n):=hLL;clear hLL;go_enter Tryz.func53,Tryz.ntmps53;go_wp2
  go_loopw [1,5] (fun q i wr=>∃k:Nat,k<=n/\q=.int .i64 (k0+2*k)/\i=.int .i64 k/\Hid (Ba base W0.heap.size w wr)) (fun _ i _=>n-(intOf i).toNat)
  case atStart=>exact⟨0,by omega,by simp,rfl,Ba.refl _ _ _⟩
  case round=>
   obtain⟨k,hk,rfl,rfl,HM⟩:=hrel;by_cases hlt:k<n
   ·obtain⟨x,hx⟩:∃x,cs[k]?=some x:=⟨_,gE (by rw[HL.out];exact hlt)⟩
    have S0:=H.out.2.trans HM.out.shaped;have f0:=AF MC.cells 2 MC.cells_length cs k 0 x hx (by omega);rw[Nat.add_zero]at f0;obtain⟨y0,c0,a0,z0,m0⟩:=Bf H.out.1 (S0) f0;have M0:=m0 base W0.heap.size (.int .i64 (k0+2*k)) lR lR (.inr ⟨.i64,x.type,_,rfl,rfl⟩);have f1:=AF MC.cells 2 MC.cells_length cs k 1 x hx (by omega);obtain⟨y1,c1,a1,z1,m1⟩:=Bf H.out.1 ((S0).trans M0.shaped) f1;have M1:=m1 base W0.heap.size (.int .u32 ((k0+2*k+1) % 4294967296)) lR lR (.inr ⟨.u32,x.word,_,rfl,rfl⟩);obtain⟨d1,e1,_⟩:=Bf H.out.1 S0 f1;have HN:Hid (Ba base W0.heap.size w _):=((HM.out).trans M0).trans M1;clear a0 m0 M0 f0 a1 m1 M1 f1 hx S0;go_wp2
    go_roundw
    case rel=>exact⟨k+1,by omega,by go_num,by go_num,HN⟩
    case measure=>simp[intOf];omega
   ·have hkn:k=n:=by omega
    subst hkn;go_wp2
    go_ret
    exact⟨rfl,HM.out⟩
theorem Hs(W0:World)(base:Nat)(s:Value)(cs:List MI)(k0:Int)(w:World)(hn:cs.length<=1048576)(h0:0<=k0)(h1:k0<=1152921504606846976)(h:W0.ownsRow base 134 4 s cs.length (cs.flatMap MI.cells))(hs:Bm W0 w):
 Calls Tryz.prog 108 #[s,.int .i64 k0] w fun e w'=>e=.returned (.int .i64 (k0+4*(cs.length:Int)))/\Ba base W0.heap.size w w':=by
 have H:=h2 h hs;rcases At h with⟨rfl,hz⟩|⟨g,c,rfl⟩
 ·clear h hs
  rw[hz];go_enter Tryz.func108,Tryz.ntmps108;go_wp2
  go_loopw [1,5] (fun q i wr=>q=.int .i64 k0/\i=.int .i64 0/\wr=w) (fun _ _ _=>0)
  case atStart=>exact⟨rfl,rfl,rfl⟩
  case round=>
   obtain⟨rfl,rfl,rfl⟩:=hrel;go_wp2
   go_ret
   exact⟨by simp,Ba.refl _ _ _⟩
 ·clear h hs
  generalize hLL:cs.length=n at hn H⊢;have HL:Hid (cs.length=n):=hLL;clear hLL;go_enter Tryz.func108,Tryz.ntmps108;go_wp2
  go_loopw [1,5] (fun q i wr=>∃k:Nat,k<=n/\q=.int .i64 (k0+4*k)/\i=.int .i64 k/\Hid (Ba base W0.heap.size w wr)) (fun _ i _=>n-(intOf i).toNat)
  case atStart=>exact⟨0,by omega,by simp,rfl,Ba.refl _ _ _⟩
  case round=>
   obtain⟨k,hk,rfl,rfl,HM⟩:=hrel;by_cases hlt:k<n
   ·obtain⟨x,hx⟩:∃x,cs[k]?=some x:=⟨_,gE (by rw[HL.out];exact hlt)⟩
    have S0:=H.out.2.trans HM.out.shaped;have f0:=AF MI.cells 4 MI.cells_length cs k 0 x hx (by omega);rw[Nat.add_zero]at f0;obtain⟨y0,c0,a0,z0,m0⟩:=Bf H.out.1 (S0) f0;have M0:=m0 base W0.heap.size (.int .i64 (k0+4*k)) lR lR (.inr ⟨.i64,x.op,_,rfl,rfl⟩);have f1:=AF MI.cells 4 MI.cells_length cs k 1 x hx (by omega);obtain⟨y1,c1,a1,z1,m1⟩:=Bf H.out.1 ((S0).trans M0.shaped) f1;have M1:=m1 base W0.heap.size (.int .i64 (k0+4*k+1)) lR lR (.inr ⟨.i64,x.a,_,rfl,rfl⟩);obtain⟨d1,e1,_⟩:=Bf H.out.1 S0 f1;have f2:=AF MI.cells 4 MI.cells_length cs k 2 x hx (by omega);obtain⟨y2,c2,a2,z2,m2⟩:=Bf H.out.1 (((S0).trans M0.shaped).trans M1.shaped) f2;have M2:=m2 base W0.heap.size (.int .i64 (k0+4*k+1+1)) lR lR (.inr ⟨.i64,x.b,_,rfl,rfl⟩);obtain⟨d2,e2,_⟩:=Bf H.out.1 S0 f2;have f3:=AF MI.cells 4 MI.cells_length cs k 3 x hx (by omega);obtain⟨y3,c3,a3,z3,m3⟩:=Bf H.out.1 ((((S0).trans M0.shaped).trans M1.shaped).trans M2.shaped) f3;have M3:=m3 base W0.heap.size (.int .i64 (k0+4*k+1+1+1)) lR lR (.inr ⟨.i64,x.c,_,rfl,rfl⟩);obtain⟨d3,e3,_⟩:=Bf H.out.1 S0 f3;have HN:Hid (Ba base W0.heap.size w _):=((((HM.out).trans M0).trans M1).trans M2).trans M3;clear a0 m0 M0 f0 a1 m1 M1 f1 a2 m2 M2 f2 a3 m3 M3 f3 hx S0
    go_wp2
    go_roundw
    case rel=>exact⟨k+1,by omega,by go_num,by go_num,HN⟩
    case measure=>simp[intOf];omega
   ·have hkn:k=n:=by omega
    subst hkn;go_wp2
    go_ret
    exact⟨rfl,HM.out⟩
theorem IA(W0:World)(base:Nat)(s:Value)(cs:List MT)(k0:Int)(w:World)(hn:cs.length<=1048576)(h0:0<=k0)(h1:k0<=1152921504606846976)(h:W0.ownsRow base 148 4 s cs.length (cs.flatMap MT.cells))(hs:Bm W0 w):
 Calls Tryz.prog 55 #[s,.int .i64 k0] w fun e w'=>e=.returned (.int .i64 (k0+4*(cs.length:Int)))/\Ba base W0.heap.size w w':=by
 have H:=h2 h hs;rcases At h with⟨rfl,hz⟩|⟨g,c,rfl⟩
 ·clear h hs
  rw[hz];go_enter Tryz.func55,Tryz.ntmps55;go_wp2
  go_loopw [1,5] (fun q i wr=>q=.int .i64 k0/\i=.int .i64 0/\wr=w) (fun _ _ _=>0)
  case atStart=>exact⟨rfl,rfl,rfl⟩
  case round=>
   obtain⟨rfl,rfl,rfl⟩:=hrel;go_wp2
   go_ret
   exact⟨by simp,Ba.refl _ _ _⟩
 ·clear h hs
  generalize hLL:cs.length=n at hn H⊢;have HL:Hid (cs.length=n):=hLL;clear hLL;go_enter Tryz.func55,Tryz.ntmps55;go_wp2
  go_loopw [1,5] (fun q i wr=>∃k:Nat,k<=n/\q=.int .i64 (k0+4*k)/\i=.int .i64 k/\Hid (Ba base W0.heap.size w wr)) (fun _ i _=>n-(intOf i).toNat)
  case atStart=>exact⟨0,by omega,by simp,rfl,Ba.refl _ _ _⟩
  case round=>
   obtain⟨k,hk,rfl,rfl,HM⟩:=hrel;by_cases hlt:k<n
   ·obtain⟨x,hx⟩:∃x,cs[k]?=some x:=⟨_,gE (by rw[HL.out];exact hlt)⟩
    have S0:=H.out.2.trans HM.out.shaped;have f0:=AF MT.cells 4 MT.cells_length cs k 0 x hx (by omega);rw[Nat.add_zero]at f0;obtain⟨y0,c0,a0,z0,m0⟩:=Bf H.out.1 (S0) f0;have M0:=m0 base W0.heap.size (.int .i64 (k0+4*k)) lR lR (.inr ⟨.i64,x.func,_,rfl,rfl⟩);have f1:=AF MT.cells 4 MT.cells_length cs k 1 x hx (by omega);obtain⟨y1,c1,a1,z1,m1⟩:=Bf H.out.1 ((S0).trans M0.shaped) f1;have M1:=m1 base W0.heap.size (.int .i64 (k0+4*k+1)) lR lR (.inr ⟨.i64,x.head,_,rfl,rfl⟩);obtain⟨d1,e1,_⟩:=Bf H.out.1 S0 f1;have f2:=AF MT.cells 4 MT.cells_length cs k 2 x hx (by omega);obtain⟨y2,c2,a2,z2,m2⟩:=Bf H.out.1 (((S0).trans M0.shaped).trans M1.shaped) f2;have M2:=m2 base W0.heap.size (.int .i64 (k0+4*k+1+1)) lR lR (.inr ⟨.i64,x.counter,_,rfl,rfl⟩);obtain⟨d2,e2,_⟩:=Bf H.out.1 S0 f2;have f3:=AF MT.cells 4 MT.cells_length cs k 3 x hx (by omega);obtain⟨y3,c3,a3,z3,m3⟩:=Bf H.out.1 ((((S0).trans M0.shaped).trans M1.shaped).trans M2.shaped) f3;have M3:=m3 base W0.heap.size (.int .u32 ((k0+4*k+1+1+1) % 4294967296)) lR lR (.inr ⟨.u32,x.init,_,rfl,rfl⟩);obtain⟨d3,e3,_⟩:=Bf H.out.1 S0 f3;have HN:Hid (Ba base W0.heap.size w _):=((((HM.out).trans M0).trans M1).trans M2).trans M3
    clear a0 m0 M0 f0 a1 m1 M1 f1 a2 m2 M2 f2 a3 m3 M3 f3 hx S0;go_wp2
    go_roundw
    case rel=>exact⟨k+1,by omega,by go_num,by go_num,HN⟩
    case measure=>simp[intOf];omega
   ·have hkn:k=n:=by omega
    subst hkn;go_wp2
    go_ret
    exact⟨rfl,HM.out⟩
structure MM where
 ins:List Int
 outs:List Int
 keeps:List Int
structure VM where
 i:Value
 o:Value
 k:Value
structure Fs(w:World)(v:VM)(m:MM):Prop where
 ins:Rd w 1 v.i m.ins.length (m.ins.flatMap Bs)
 outs:Rd w 1 v.o m.outs.length (m.outs.flatMap Bs)
 keeps:Rd w 1 v.k m.keeps.length (m.keeps.flatMap Bs)
structure GE(w:World)(base:Nat)(v:VM)(m:MM):Prop where
 ins:w.ownsRow base 126 1 v.i m.ins.length (m.ins.flatMap Bs)
 outs:w.ownsRow base 126 1 v.o m.outs.length (m.outs.flatMap Bs)
 keeps:w.ownsRow base 126 1 v.k m.keeps.length (m.keeps.flatMap Bs)
structure MM.small(m:MM):Prop where
 ins:m.ins.length<=1048576
 outs:m.outs.length<=1048576
 keeps:m.keeps.length<=1048576
structure MM.fits(m:MM):Prop where
 ins:m.ins.length<=9223372036854775807
 outs:m.outs.length<=9223372036854775807
 keeps:m.keeps.length<=9223372036854775807
structure MM.wf(m:MM):Prop where
 ins:∀z∈m.ins,Ka z
 outs:∀z∈m.outs,Ka z
 keeps:∀z∈m.keeps,Ka z
theorem GE.rd{w:World}{base:Nat}{v:VM}{m:MM}(h:GE w base v m):Fs w v m:=⟨Rd.of_own h.ins,Rd.of_own h.outs,Rd.of_own h.keeps⟩
theorem Fs.keep{w w':World}{v:VM}{m:MM}(h:Fs w v m){B:Nat}(hb:Below B w w')(hB:w.heap.size<=B):Fs w' v m:=⟨h.ins.keep hb hB,h.outs.keep hb hB,h.keeps.keep hb hB⟩
theorem GE.base{w:World}{base base':Nat}{v:VM}{m:MM}(h:GE w base v m)(hb:base'<=base):GE w base' v m:=⟨AK h.ins hb,AK h.outs hb,AK h.keeps hb⟩
theorem GE.below{w:World}{base:Nat}{v:VM}{m:MM}(h:GE w base v m){a:Addr}(ha:a.block<base)(u:Value):GE (w.setCell a u) base v m:=⟨ownsRow_setCell_below h.ins ha u,ownsRow_setCell_below h.outs ha u,ownsRow_setCell_below h.keeps ha u⟩
theorem La{w:World}{base:Nat}{e:TypeId}{g:Nat}{a b c:Value}(h:w.ownsRow base e 3 (.slice (some ⟨g,0,none⟩) 1 1) 1 [a,b,c]):
 w.cell? ⟨g,0,none⟩=some a/\w.cell? ⟨g,1,none⟩=some b/\w.cell? ⟨g,2,none⟩=some c/\w.frozen? ⟨g,0,none⟩=false/\w.frozen? ⟨g,1,none⟩=false/\w.frozen? ⟨g,2,none⟩=false:=
 ⟨h.cellAt 0 (by omega),h.cellAt 1 (by omega),h.cellAt 2 (by omega),h.frozenAt 0,h.frozenAt 1,h.frozenAt 2⟩
theorem DV(v:VM)(m:MM)(w:World)(hs:m.small)(h:Fs w v m):
 Calls Tryz.prog 18 #[.agg #[v.i,v.o,v.k]] w fun e w'=>∃a1 c1 a2 c2 a3 c3,e=.returned (.agg #[.slice a1 m.ins.length c1,.slice a2 m.outs.length c2,.slice a3 m.keeps.length c3])/\GE w' w.heap.size ⟨.slice a1 m.ins.length c1,.slice a2 m.outs.length c2,.slice a3 m.keeps.length c3⟩ m/\Below w.heap.size w w':=by
 have F0:=Ni.of 3 w 55 58 #[v.i,v.o,v.k] #[.slice none 0 0,.slice none 0 0,.slice none 0 0] #[.slice none 0 0,.slice none 0 0,.slice none 0 0] rfl rfl rfl;go_enter Tryz.func18,Tryz.ntmps18;go_wp2_with fail
 refine(EF v.i m.ins _ hs.ins (h.ins.keep F0.bel lR)).mono ?_;rintro e u1 ⟨a1,c1,rfl,own1,b1⟩;have O1:=AS (AK own1 F0.siz);have F1:=F0.keep b1;clear own1 b1 F0;obtain⟨p0,p1,p2,_⟩:=La F1.par;obtain⟨o0,o1,o2,z0,z1,z2⟩:=La F1.loc;go_wp2_with fail
 have F2:=F1.set 0 (.slice a1 m.ins.length c1);have O2:Hid _:=CD (w:=w) O1.out (w.heap.size+1+1) 0 (by omega) (.slice a1 m.ins.length c1);clear O1 F1 p0 p1 p2 o0 o1 o2 z0 z1 z2;simp only[List.set_cons_zero]at F2;refine(EF v.o m.outs _ hs.outs (h.outs.keep F2.bel lR)).mono ?_;rintro e u2 ⟨a2,c2,rfl,own2,b2⟩;have O3:Hid (u2.ownsRow (w.heap.size+3) 126 1 (.slice a1 m.ins.length c1) m.ins.length (m.ins.flatMap Bs)/\u2.ownsRow (w.heap.size+3) 126 1 (.slice a2 m.outs.length c2) m.outs.length (m.outs.flatMap Bs)):=⟨Ag O2.out b2 lR,AK own2 F2.siz⟩
 have F3:=F2.keep b2;clear own2 b2 F2 O2;obtain⟨p0,p1,p2,_⟩:=La F3.par;obtain⟨o0,o1,o2,z0,z1,z2⟩:=La F3.loc;go_wp2_with fail
 have F4:=F3.set 1 (.slice a2 m.outs.length c2);have O4:Hid _:=And.intro (CD (w:=w) O3.out.1 (w.heap.size+1+1) 1 (by omega) (.slice a2 m.outs.length c2)) (CD (w:=w) O3.out.2 (w.heap.size+1+1) 1 (by omega) (.slice a2 m.outs.length c2));clear O3 F3 p0 p1 p2 o0 o1 o2 z0 z1 z2;simp only[List.set_cons_zero,List.set_cons_succ]at F4;refine(EF v.k m.keeps _ hs.keeps (h.keeps.keep F4.bel lR)).mono ?_;rintro e u3 ⟨a3,c3,rfl,own3,b3⟩;have O5:Hid (GE u3 (w.heap.size+3) ⟨.slice a1 m.ins.length c1,.slice a2 m.outs.length c2,.slice a3 m.keeps.length c3⟩ m):=⟨Ag O4.out.1 b3 lR,Ag O4.out.2 b3 lR,AK own3 F4.siz⟩;have F5:=F4.keep b3;clear own3 b3 F4 O4;obtain⟨p0,p1,p2,_⟩:=La F5.par;obtain⟨o0,o1,o2,z0,z1,z2⟩:=La F5.loc;obtain⟨q0,q1,q2,y0,y1,y2⟩:=La F5.res;go_wp2_with fail
 clear p0 p1 p2 o0 o1 o2 z0 z1 z2 q0 q1 q2 y0 y1 y2;have F6:=(((F5.set 2 (.slice a3 m.keeps.length c3)).set' 0 (.slice a1 m.ins.length c1)).set' 1 (.slice a2 m.outs.length c2)).set' 2 (.slice a3 m.keeps.length c3);simp only[List.set_cons_zero,List.set_cons_succ]at F6;obtain⟨q0,q1,q2,_⟩:=La F6.res;have hall:=(((O5.out.below (a:=⟨w.heap.size+1+1,2,none⟩) (by simp) (.slice a3 m.keeps.length c3)).below (a:=⟨w.heap.size+1,0,none⟩) (by simp<;>omega) (.slice a1 m.ins.length c1)).below (a:=⟨w.heap.size+1,1,none⟩) (by simp<;>omega) (.slice a2 m.outs.length c2)).below (a:=⟨w.heap.size+1,2,none⟩) (by simp<;>omega) (.slice a3 m.keeps.length c3);exact bodyPost_ret (v:=.agg #[.slice a1 m.ins.length c1,.slice a2 m.outs.length c2,.slice a3 m.keeps.length c3]) (by simp[results,Tryz.results18,go_sem,q0,q1,q2]) rfl ⟨a1,c1,a2,c2,a3,c3,rfl,hall.base (by omega),F6.bel⟩
theorem II(v v':VM)(m:MM)(w:World)(hs:m.small)(h:Fs w v m)(h':Fs w v' m):
 Calls Tryz.prog 20 #[.agg #[v.i,v.o,v.k],.agg #[v'.i,v'.o,v'.k]] w fun e w'=>e=.returned (.bool true)/\Below w.heap.size w w':=by
 have HB0:Hid (Below w.heap.size w ((w.alloc (.cells #[v.i,v.o,v.k] 58)).alloc (.cells #[v'.i,v'.o,v'.k] 58))):=((Below.refl _ _).alloc lR _).alloc (by simp) _;go_enter Tryz.func20,Tryz.ntmps20;go_wp2_with fail
 refine(DS v.i v'.i m.ins _ (Nat.le_trans hs.ins (by omega)) (h.ins.keep HB0.out lR) (h'.ins.keep HB0.out lR)).mono ?_;rintro e u1 ⟨rfl,n1,rfl⟩;have HB1:Hid _:=HB0.out.trans (A3 _ _ n1);go_wp2_with fail
 refine(DS v.o v'.o m.outs _ (Nat.le_trans hs.outs (by omega)) (h.outs.keep HB1.out lR) (h'.outs.keep HB1.out lR)).mono ?_;rintro e u1 ⟨rfl,n2,rfl⟩;have HB2:Hid _:=HB0.out.trans (A3 _ _ (n1+n2));go_wp2_with fail
 refine(DS v.k v'.k m.keeps _ (Nat.le_trans hs.keeps (by omega)) (h.keeps.keep HB2.out lR) (h'.keeps.keep HB2.out lR)).mono ?_;rintro e u1 ⟨rfl,n3,rfl⟩;have HB3:Hid _:=HB0.out.trans (A3 _ _ (n1+n2+n3));go_wp2
 go_ret
 exact⟨rfl,HB3.out⟩
theorem JS(v:VM)(m:MM)(left:Int)(w:World)(hf:m.fits)(h:Fs w v m)(h0:0<=left)(h1:left<=1048576):
 Calls Tryz.prog 16 #[.agg #[v.i,v.o,v.k],.int .i64 left] w fun e w'=>∃r:Int,e=.returned (.int .i64 r)/\(r=-1\/0<=r/\r<=left/\m.small)/\Below w.heap.size w w':=by
 obtain⟨a1,c1,e1⟩:=h.ins.is_slice;obtain⟨a2,c2,e2⟩:=h.outs.is_slice;obtain⟨a3,c3,e3⟩:=h.keeps.is_slice;obtain⟨vi,vo,vk⟩:=v;simp only[]at e1 e2 e3;subst e1 e2 e3;have HB0:Hid (Below w.heap.size w (w.alloc (.cells #[.slice a1 m.ins.length c1,.slice a2 m.outs.length c2,.slice a3 m.keeps.length c3] 55))):=(Below.refl _ _).alloc lR _;have HF:Hid m.fits:=hf;clear hf h;go_enter Tryz.func16,Tryz.ntmps16;go_wp2_with fail
 refine(EG a1 m.ins.length c1 left _ HF.out.ins h0 h1).mono ?_;rintro e u2 ⟨rfl,rfl⟩;have hz:=EM (n:=m.ins.length) h0 h1;generalize FU left m.ins.length=r1 at hz;rcases hz with rfl|⟨r10,r11,r12⟩
 ·go_wp2
  go_ret
  exact⟨-1,rfl,.inl rfl,HB0.out⟩
 go_wp2_with fail
 refine(EG a2 m.outs.length c2 r1 _ HF.out.outs r10 (by omega)).mono ?_;rintro e u2 ⟨rfl,rfl⟩;have hz:=EM (n:=m.outs.length) r10 (by omega);generalize FU r1 m.outs.length=r2 at hz;rcases hz with rfl|⟨r20,r21,r22⟩
 ·go_wp2
  go_ret
  exact⟨-1,rfl,.inl rfl,HB0.out⟩
 go_wp2_with fail
 refine(EG a3 m.keeps.length c3 r2 _ HF.out.keeps r20 (by omega)).mono ?_;rintro e u2 ⟨rfl,rfl⟩;have hz:=EM (n:=m.keeps.length) r20 (by omega);generalize FU r2 m.keeps.length=r3 at hz;rcases hz with rfl|⟨r30,r31,r32⟩
 ·go_wp2
  go_ret
  exact⟨-1,rfl,.inl rfl,HB0.out⟩
 go_wp2
 go_ret
 exact⟨r3,rfl,.inr ⟨r30,by omega,⟨by omega,by omega,by omega⟩⟩,HB0.out⟩
theorem OE:Tryz.prog.cellsOf 55=3:=by kernel_rfl
theorem Pe:Tryz.prog.cellsOf 53=1:=by kernel_rfl
section
variable {H:Type} {enc:TypeId×Value->H} {w:World} {spare:Nat->Bool} {held:Bool} {fuel:Nat} {cs:List Value} {x:DataW H×List MemPlace}
theorem three{cs:List Value}(h:cs.length=3):∃a b c,cs=[a,b,c]:=by
 match cs,h with
 |[a,b,c],_=>exact⟨a,b,c,rfl⟩
theorem Gg(h:DataW.trod enc Tryz.prog w 0 spare held fuel 53 cs=some x):∃(s:Value) (l:List Int),cs=[s]/\Rd w 1 s l.length (l.flatMap Bs)/\l.length<=9223372036854775807/\∀z∈l,Ka z:=by
 obtain⟨s,ys,e,h1,h2,h3⟩:=Du Bs Ka 1 Bx (by omega) Tryz.underlying53 JG (fun _ _ _=>Ie) h;exact⟨s,ys,e,h1,by simp[maxLen]at h2;exact h2,h3⟩
theorem Lp(h:DataW.trod enc Tryz.prog w 0 spare held fuel 55 cs=some x):∃(m:MM) (v:VM),cs=[v.i,v.o,v.k]/\Fs w v m/\m.fits/\m.wf:=by
 obtain⟨y0,y1,y2,n,_,hl,g0,g1,g2⟩:=Go.Deep.trod_struct3 Tryz.underlying55 h;rw[OE]at hl;obtain⟨a,b,c,rfl⟩:=three hl;simp only[Pe,List.drop_zero,List.drop_succ_cons,List.take_succ_cons,List.take_zero]at g0 g1 g2;obtain⟨s0,l0,e0,w0,m0,k0⟩:=Gg g0;obtain⟨s1,l1,e1,w1,m1,k1⟩:=Gg g1;obtain⟨s2,l2,e2,w2,m2,k2⟩:=Gg g2;simp only[List.cons.injEq,and_true]at e0 e1 e2;subst e0 e1 e2;exact⟨⟨l0,l1,l2⟩,⟨a,b,c⟩,rfl,⟨w0,w1,w2⟩,⟨m0,m1,m2⟩,⟨k0,k1,k2⟩⟩
end
section
variable {u:World} {b:Nat} {t:TypeId} {x0 x1 x2 x3 x4 x5 x6 x7 x8:Value}
theorem Ap.c2(h:Ap u b #[x0,x1] t):u.cell? ⟨b,0,none⟩=some x0/\u.cell? ⟨b,1,none⟩=some x1:=⟨h.cell 0,h.cell 1⟩
theorem Ap.c3(h:Ap u b #[x0,x1,x2] t):u.cell? ⟨b,0,none⟩=some x0/\u.cell? ⟨b,1,none⟩=some x1/\u.cell? ⟨b,2,none⟩=some x2:=⟨h.cell 0,h.cell 1,h.cell 2⟩
theorem Ap.c4(h:Ap u b #[x0,x1,x2,x3] t):u.cell? ⟨b,0,none⟩=some x0/\u.cell? ⟨b,1,none⟩=some x1/\u.cell? ⟨b,2,none⟩=some x2/\u.cell? ⟨b,3,none⟩=some x3:=⟨h.cell 0,h.cell 1,h.cell 2,h.cell 3⟩
theorem Ap.c7(h:Ap u b #[x0,x1,x2,x3,x4,x5,x6] t):u.cell? ⟨b,0,none⟩=some x0/\u.cell? ⟨b,1,none⟩=some x1/\u.cell? ⟨b,2,none⟩=some x2/\u.cell? ⟨b,3,none⟩=some x3/\u.cell? ⟨b,4,none⟩=some x4/\u.cell? ⟨b,5,none⟩=some x5/\u.cell? ⟨b,6,none⟩=some x6:=⟨h.cell 0,h.cell 1,h.cell 2,h.cell 3,h.cell 4,h.cell 5,h.cell 6⟩
theorem Ap.c8(h:Ap u b #[x0,x1,x2,x3,x4,x5,x6,x7] t):u.cell? ⟨b,0,none⟩=some x0/\u.cell? ⟨b,1,none⟩=some x1/\u.cell? ⟨b,2,none⟩=some x2/\u.cell? ⟨b,3,none⟩=some x3/\u.cell? ⟨b,4,none⟩=some x4/\u.cell? ⟨b,5,none⟩=some x5/\u.cell? ⟨b,6,none⟩=some x6/\u.cell? ⟨b,7,none⟩=some x7:=⟨h.cell 0,h.cell 1,h.cell 2,h.cell 3,h.cell 4,h.cell 5,h.cell 6,h.cell 7⟩
theorem Ap.z2{cur:Array Value}(h:Ap u b cur t):u.frozen? ⟨b,0,none⟩=false/\u.frozen? ⟨b,1,none⟩=false:=⟨h.frozen 0,h.frozen 1⟩
theorem Ap.z4{cur:Array Value}(h:Ap u b cur t):u.frozen? ⟨b,0,none⟩=false/\u.frozen? ⟨b,1,none⟩=false/\u.frozen? ⟨b,2,none⟩=false/\u.frozen? ⟨b,3,none⟩=false:=⟨h.frozen 0,h.frozen 1,h.frozen 2,h.frozen 3⟩
theorem Ap.z7{cur:Array Value}(h:Ap u b cur t):u.frozen? ⟨b,0,none⟩=false/\u.frozen? ⟨b,1,none⟩=false/\u.frozen? ⟨b,2,none⟩=false/\u.frozen? ⟨b,3,none⟩=false/\u.frozen? ⟨b,4,none⟩=false/\u.frozen? ⟨b,5,none⟩=false/\u.frozen? ⟨b,6,none⟩=false:=⟨h.frozen 0,h.frozen 1,h.frozen 2,h.frozen 3,h.frozen 4,h.frozen 5,h.frozen 6⟩
theorem Ap.w7(h:Ap u b #[x0,x1,x2,x3,x4,x5,x6] t)(y0 y1 y2 y3 y4 y5 y6:Value):Ap (((((((u.setCell ⟨b,0,none⟩ y0).setCell ⟨b,1,none⟩ y1).setCell ⟨b,2,none⟩ y2).setCell ⟨b,3,none⟩ y3).setCell ⟨b,4,none⟩ y4).setCell ⟨b,5,none⟩ y5).setCell ⟨b,6,none⟩ y6) b #[y0,y1,y2,y3,y4,y5,y6] t:=by
 have:=((((((h.set 0 y0).set 1 y1).set 2 y2).set 3 y3).set 4 y4).set 5 y5).set 6 y6;simpa using this
theorem Iq{B:Nat}{w:World}(h:Below B w u)(hb:B<=b)(y0 y1 y2 y3 y4 y5 y6:Value):Below B w (((((((u.setCell ⟨b,0,none⟩ y0).setCell ⟨b,1,none⟩ y1).setCell ⟨b,2,none⟩ y2).setCell ⟨b,3,none⟩ y3).setCell ⟨b,4,none⟩ y4).setCell ⟨b,5,none⟩ y5).setCell ⟨b,6,none⟩ y6):=((((((h.setCell hb _).setCell hb _).setCell hb _).setCell hb _).setCell hb _).setCell hb _).setCell hb _
end
def Bl(p:MP)(r c:Int):Int:=if r<0\/2<r\/c<0 then 0 else(p.regions.getD r.toNat []).getD c.toNat 0
theorem Eb{p:MP}{r c:Int}(h:r<0\/2<r\/c<0):Bl p r c=0:=if_pos h
theorem Dj{p:MP}{r c:Nat}(h:r<=2){l:List Int}(hl:p.regions[r]?=some l):Bl p r c=l.getD c 0:=by
 unfold Bl;have e:p.regions.getD r []=l:=by rw[List.getD_eq_getElem?_getD,hl];rfl
 rw[if_neg (by omega),Int.toNat_natCast,Int.toNat_natCast,e]
theorem Gb(v:VP)(p:MP)(r c:Int)(w:World)(hs:p.small)(h3:p.regions.length=3)(hr:Dr r)(hc:Dr c)(h:Cx w v p):
 Calls Tryz.prog 180 #[.agg #[v.r,v.k,v.f,v.t],.int .i64 r,.int .i64 c] w fun e w'=>e=.returned (.int .i64 (Bl p r c))/\Below w.heap.size w w':=by
 have hr':-9223372036854775808<=r/\r<=9223372036854775807:=by simpa[Dr,Lit.wf,IntKind.min,IntKind.max,IntKind.signed,IntKind.bits]using hr
 have hc':-9223372036854775808<=c/\c<=9223372036854775807:=by simpa[Dr,Lit.wf,IntKind.min,IntKind.max,IntKind.signed,IntKind.bits]using hc
 obtain⟨r0,r1⟩:=hr';obtain⟨c0,c1⟩:=hc';clear hr hc;obtain⟨vr,vk,vf,vt⟩:=v;obtain⟨xs,hxs,hrd,hel⟩:=h.regions;simp only[]at hrd;rw[h3]at hrd;have hxl:xs.length=3:=by rw[<-h3,<-hxs];simp
 have H1:=h5 hrd hxs hel hs.region hxl;clear hrd hxs hel hxl hs h h3;have HB:Hid _:=(Po.of w 45 #[vr,vk,vf,vt] rfl).bel;by_cases q0:r<0
 ·rw[Eb (.inl q0)]
  go_enter Tryz.func180,Tryz.ntmps180;go_wp2
  go_ret
  exact⟨rfl,HB.out⟩
 by_cases q1:2<r
 ·rw[Eb (.inr (.inl q1))]
  go_enter Tryz.func180,Tryz.ntmps180;go_wp2
  go_ret
  exact⟨rfl,HB.out⟩
 by_cases q2:c<0
 ·rw[Eb (.inr (.inr q2))]
  go_enter Tryz.func180,Tryz.ntmps180;go_wp2
  go_ret
  exact⟨rfl,HB.out⟩
 obtain⟨i,rfl⟩:=Int.eq_ofNat_of_zero_le (show 0<=r by omega);obtain⟨j,rfl⟩:=Int.eq_ofNat_of_zero_le (show 0<=c by omega);obtain⟨⟨l,y⟩,hx⟩:∃x,xs[i]?=some x:=⟨_,gE (by rw[H1.out.2.2.2.2];omega)⟩;have e1:=Bh H1.out.2.1 hx;have hy:=H1.out.2.2.1 _ (mG hx);have hll:=H1.out.2.2.2.1 _ (mG e1);simp only[]at e1 hy hll;rw[Dj (by omega) e1];rcases H1.out.1.2 with⟨e0,_⟩|⟨g,o,cc,e2,hc1⟩
 ·omega
 subst e2;have a0:=Rd.elem AO hc1 i _ hx 0 _ rfl;rw[Nat.mul_one,Nat.add_zero]at a0;simp only[]at a0;clear hc1 hx e1;obtain⟨ay,cy,rfl⟩:=hy.is_slice;have a1:=(HB.out.cell (bL a0)).trans a0;by_cases q3:j<l.length
 ·obtain⟨z,hz⟩:∃z,l[j]?=some z:=⟨_,gE q3⟩
  have ez:l.getD j 0=z:=by rw[List.getD_eq_getElem?_getD,hz];rfl
  rw[ez];rcases hy.2 with⟨e0,_⟩|⟨g2,o2,c2,e3,hc2⟩
  ·omega
  simp only[sJ,true_and]at e3;obtain⟨rfl,rfl⟩:=e3;have b0:=Rd.elem An hc2 j z hz 0 _ rfl;rw[Nat.mul_one,Nat.add_zero]at b0;have b1:=(HB.out.cell (bL b0)).trans b0;clear hc2 hz b0 a0 ez;have HY:Hid _:=hy;clear hy;generalize l.length=n at*;go_enter Tryz.func180,Tryz.ntmps180;go_wp2
  go_ret
  exact⟨rfl,HB.out⟩
 ·have ez:l.getD j 0=0:=by rw[List.getD_eq_getElem?_getD,List.getElem?_eq_none (by omega)];rfl
  rw[ez];clear ez a0 hy;generalize l.length=n at*;go_enter Tryz.func180,Tryz.ntmps180;go_wp2
  go_ret
  exact⟨rfl,HB.out⟩
end Go.Proofs.YtlejplpkomddeaaGreat
