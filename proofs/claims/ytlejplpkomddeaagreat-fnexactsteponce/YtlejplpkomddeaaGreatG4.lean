import Derived.Test.YtlejplpkomddeaaGreatG0
import Derived.Test.YtlejplpkomddeaaGreatG3
import Derived.Lib.SmallJoins
import Derived.Deep.Slices
import Derived.Deep.Cut
import Derived.Deep.CutRange
namespace Go.Proofs.YtlejplpkomddeaaGreat
open Go.ChangeShapes Go.WideShapes Go.ChangeAt Go.RowKit
set_option linter.unusedVariables false
set_option maxHeartbeats 1000000
set_option maxRecDepth 100000
section
variable {H:Type} {enc:TypeId×Value->H} {P:Program} {w:World} {spare:Nat->Bool} {held:Bool}
theorem CB(b off:Nat)(i:Nat):(⟨b,off,none⟩:Addr).add i=⟨b,off+i,none⟩:=by unfold Addr.add;split<;>simp_all
theorem CH{α:Type}[Inhabited α](f:α->List Value)(G:α->Prop)(m:Nat)(hf:∀y,(f y).length=m)(h0:0<m){t e:TypeId}(ht:P.underlying t=some (.slice e))(hm:P.cellsOf e=m)
  (hel:∀fuel cs x,DataW.trod enc P w 0 spare held fuel e cs=some x->∃y,cs=f y/\G y) {fuel:Nat} {cs:List Value} {x:DataW H×List MemPlace} (h:DataW.trod enc P w 0 spare held fuel t cs=some x):
  ∃(s:Value) (ys:List α),cs=[s]/\Rd w m s ys.length (ys.flatMap f)/\ys.length<=maxLen/\∀y∈ys,G y:=by
 rcases DataW.trod_slice ht h with⟨rfl,_⟩|⟨a,len,cap,elems,rest,n,_,rfl,_,_,hl,hmx,hlen,hE,_,_⟩
 ·exact⟨_,[],rfl,⟨by simp,.inl ⟨rfl,_,_,rfl⟩⟩,by simp,fun y hy=>by cases hy⟩
 ·rw [hm]at hE
  have hy:∀i,i<len->∃y,w.cells? 0 (a.add (i*m)) m=some (f y)/\G y:=by
   intro i hi;have h1:=hE i hi;rw[gE (by omega)]at h1;obtain⟨cs',hc,hx⟩:=Option.bind_eq_some_iff.1 h1;obtain⟨y,rfl,hg⟩:=hel _ _ _ hx;exact⟨y,hc,hg⟩
  obtain⟨F,hF⟩:=Go.Deep.choose_lt hy;refine⟨_,(List.range len).map F,rfl,⟨?_,?_⟩,by simp;omega,?_⟩
  ·rw[Aw f m hf]
  ·by_cases hz:len=0
   ·subst hz
    exact .inl ⟨by simp,_,_,rfl⟩
   ·obtain⟨b,off,spot⟩:=a
    have hc0:=(World.cells?_some (hF 0 (by omega)).1).2.2 0 h0;have hfl:0<(f (F 0)).length:=by rw[hf];exact h0
    rw[gE hfl]at hc0;have hspot:spot=none:=by simpa[Addr.add]using World.cell?_spot hc0
    subst hspot;refine .inr ⟨b,off,cap,by simp,fun j u hj=> ?_⟩
    have hjl:j<len*m:=by
     have:=(gI.1 hj).1;rw[Aw f m hf]at this;simpa using this
    have hq:j / m<len:=(Nat.div_lt_iff_lt_mul h0).2 hjl;have hr:=Nat.mod_lt j h0;have ej:j=j / m*m+j % m:=by rw[Nat.mul_comm];exact(Nat.div_add_mod j m).symm
    have hk:((List.range len).map F)[j / m]?=some (F (j / m)):=by simp[hq]
    have hcell:=(World.cells?_some (hF (j / m) hq).1).2.2 (j % m) hr;have hat:=Az f m hf _ (j / m) (j % m) _ hk hr;rw[<-ej,hj]at hat;rw[CB,CB,Nat.add_assoc,<-ej]at hcell;rw[hcell,<-hat]
  ·intro y hy'
   obtain⟨i,hi,rfl⟩:=List.mem_map.1 hy';exact(hF i (List.mem_range.1 hi)).2
end
instance:Inhabited MI:=⟨⟨0,0,0,0⟩⟩
instance:Inhabited MC:=⟨⟨0,0⟩⟩
instance:Inhabited MT:=⟨⟨0,0,0,0⟩⟩
instance:Inhabited MF:=⟨⟨[],0,[],[]⟩⟩
instance:Inhabited VF:=⟨⟨.bool true,.bool true,.bool true⟩⟩
def Dn(z:Int):Prop:=(Lit.int .i64 z).wf=true
def Pk(z:Int):Prop:=(Lit.int .u32 z).wf=true
def MI.wf(x:MI):Prop:=Dn x.op/\Dn x.a/\Dn x.b/\Dn x.c
def MC.wf(x:MC):Prop:=Dn x.type/\Pk x.word
def MT.wf(x:MT):Prop:=Dn x.func/\Dn x.head/\Dn x.counter/\Pk x.init
structure MF.wf(f:MF):Prop where
 params:∀z∈f.params,Dn z
 result:Dn f.result
 locals:∀z∈f.locals,Dn z
 code:∀x∈f.code,x.wf
structure MP.wf(p:MP):Prop where
 regions:∀r∈p.regions,∀z∈r,Dn z
 consts:∀x∈p.consts,x.wf
 funcs:∀f∈p.funcs,f.wf
 certs:∀x∈p.certs,x.wf
theorem Ea:Tryz.prog.cellsOf 2=1:=by kernel_rfl
theorem IV:Tryz.prog.cellsOf 126=1:=by kernel_rfl
theorem KJ:Tryz.prog.cellsOf 113=1:=by kernel_rfl
theorem MZ:Tryz.prog.cellsOf 22=1:=by kernel_rfl
theorem Mb:Tryz.prog.cellsOf 222=4:=by kernel_rfl
theorem Mc:Tryz.prog.cellsOf 145=2:=by kernel_rfl
theorem Mo:Tryz.prog.cellsOf 150=4:=by kernel_rfl
theorem Mn:Tryz.prog.cellsOf 117=4:=by kernel_rfl
theorem Og:Tryz.prog.cellsOf 27=4:=by kernel_rfl
theorem Ok:Tryz.prog.cellsOf 115=1:=by kernel_rfl
theorem OA:Tryz.prog.cellsOf 23=1:=by kernel_rfl
theorem NY:Tryz.prog.cellsOf 25=1:=by kernel_rfl
theorem N4:Tryz.prog.cellsOf 24=1:=by kernel_rfl
section
variable {H:Type} {enc:TypeId×Value->H} {w:World} {spare:Nat->Bool} {held:Bool} {fuel:Nat} {cs:List Value} {x:DataW H×List MemPlace}
theorem Nq{cs:List Value}(h:cs.length=4):∃a b c d,cs=[a,b,c,d]:=by
 match cs,h with
 |[a,b,c,d],_=>exact⟨a,b,c,d,rfl⟩
theorem two{cs:List Value}(h:cs.length=2):∃a b,cs=[a,b]:=by
 match cs,h with
 |[a,b],_=>exact⟨a,b,rfl⟩
theorem Bx(h:DataW.trod enc Tryz.prog w 0 spare held fuel 2 cs=some x):∃z,cs=Af z/\Dn z:=by
 obtain⟨n,h1,_,h2⟩:=DataW.trod_int Tryz.underlying2 h;exact⟨n,h1,h2⟩
theorem G5(h:DataW.trod enc Tryz.prog w 0 spare held fuel 126 cs=some x):∃z,cs=[.int .u32 z]/\Pk z:=by
 obtain⟨n,h1,_,h2⟩:=DataW.trod_int Tryz.underlying126 h;exact⟨n,h1,h2⟩
theorem LL(h:DataW.trod enc Tryz.prog w 0 spare held fuel 222 cs=some x):∃y:MI,cs=y.cells/\y.wf:=by
 obtain⟨y0,y1,y2,y3,n,_,hl,g0,g1,g2,g3⟩:=Go.Joins.trod_struct4 Tryz.underlying222 h;rw[Mb]at hl;obtain⟨a,b,c,d,rfl⟩:=Nq hl;simp only[Ea,List.drop_zero,List.drop_succ_cons,List.take_succ_cons,List.take_zero]at g0 g1 g2 g3;obtain⟨z0,e0,w0⟩:=Bx g0;obtain⟨z1,e1,w1⟩:=Bx g1;obtain⟨z2,e2,w2⟩:=Bx g2;obtain⟨z3,e3,w3⟩:=Bx g3;simp only[Af,List.cons.injEq,and_true]at e0 e1 e2 e3;subst e0 e1 e2 e3;exact⟨⟨z0,z1,z2,z3⟩,rfl,w0,w1,w2,w3⟩
theorem MW(h:DataW.trod enc Tryz.prog w 0 spare held fuel 150 cs=some x):∃y:MT,cs=y.cells/\y.wf:=by
 obtain⟨y0,y1,y2,y3,n,_,hl,g0,g1,g2,g3⟩:=Go.Joins.trod_struct4 Tryz.underlying150 h;rw[Mo]at hl;obtain⟨a,b,c,d,rfl⟩:=Nq hl;simp only[Ea,IV,List.drop_zero,List.drop_succ_cons,List.take_succ_cons,List.take_zero]at g0 g1 g2 g3;obtain⟨z0,e0,w0⟩:=Bx g0;obtain⟨z1,e1,w1⟩:=Bx g1;obtain⟨z2,e2,w2⟩:=Bx g2;obtain⟨z3,e3,w3⟩:=G5 g3;simp only[Af,List.cons.injEq,and_true]at e0 e1 e2 e3;subst e0 e1 e2 e3;exact⟨⟨z0,z1,z2,z3⟩,rfl,w0,w1,w2,w3⟩
theorem LF(h:DataW.trod enc Tryz.prog w 0 spare held fuel 145 cs=some x):∃y:MC,cs=y.cells/\y.wf:=by
 obtain⟨y0,y1,n,_,hl,g0,g1⟩:=trod_struct2 Tryz.underlying145 h;rw[Mc]at hl;obtain⟨a,b,rfl⟩:=two hl;simp only[Ea,IV,List.drop_zero,List.drop_succ_cons,List.take_succ_cons,List.take_zero]at g0 g1;obtain⟨z0,e0,w0⟩:=Bx g0;obtain⟨z1,e1,w1⟩:=G5 g1;simp only[Af,List.cons.injEq,and_true]at e0 e1;subst e0 e1;exact⟨⟨z0,z1⟩,rfl,w0,w1⟩
theorem Fl(h:DataW.trod enc Tryz.prog w 0 spare held fuel 113 cs=some x):∃y:List Int×Value,cs=Cm y/\Rd w 1 y.2 y.1.length (y.1.flatMap Af)/\y.1.length<=maxLen/\∀z∈y.1,Dn z:=by
 obtain⟨s,ys,e,h1,h2,h3⟩:=CH Af Dn 1 Ap (by omega) Tryz.underlying113 Ea (fun _ _ _=>Bx) h;exact⟨(ys,s),e,h1,h2,h3⟩
theorem MV(h:DataW.trod enc Tryz.prog w 0 spare held fuel 117 cs=some x):∃y:MF×VF,cs=BC y/\CK w y.2 y.1/\y.1.fits/\y.1.wf:=by
 obtain⟨y0,y1,y2,y3,n,_,hl,g0,g1,g2,g3⟩:=Go.Joins.trod_struct4 Tryz.underlying117 h;rw[Mn]at hl;obtain⟨a,b,c,d,rfl⟩:=Nq hl;simp only[Ea,KJ,Ok,List.drop_zero,List.drop_succ_cons,List.take_succ_cons,List.take_zero]at g0 g1 g2 g3;obtain⟨⟨l0,s0⟩,e0,w0,m0,k0⟩:=Fl g0;obtain⟨z1,e1,w1⟩:=Bx g1;obtain⟨⟨l2,s2⟩,e2,w2,m2,k2⟩:=Fl g2;obtain⟨s3,l3,e3,w3,m3,k3⟩:=CH MI.cells MI.wf 4 MI.cells_length (by omega) Tryz.underlying115 Mb (fun _ _ _=>LL) g3;simp only[Af,Cm,List.cons.injEq,and_true]at e0 e1 e2 e3;subst e0 e1 e2 e3;exact⟨(⟨l0,z1,l2,l3⟩,⟨a,c,d⟩),rfl,⟨w0,w2,w3⟩,⟨by simp[maxLen]at m0;exact m0,by simp[maxLen]at m2;exact m2,by simp[maxLen]at m3;exact m3⟩,⟨k0,w1,k2,k3⟩⟩
theorem Je(h:DataW.trod enc Tryz.prog w 0 spare held fuel 27 cs=some x):∃(p:MP) (v:VP),cs=[v.r,v.k,v.f,v.t]/\Cx w v p/\p.fits/\p.wf:=by
 obtain⟨y0,y1,y2,y3,n,_,hl,g0,g1,g2,g3⟩:=Go.Joins.trod_struct4 Tryz.underlying27 h;rw[Og]at hl;obtain⟨a,b,c,d,rfl⟩:=Nq hl;simp only[MZ,OA,N4,NY,List.drop_zero,List.drop_succ_cons,List.take_succ_cons,List.take_zero]at g0 g1 g2 g3;obtain⟨s0,l0,e0,w0,m0,k0⟩:=CH Cm (fun y=>Rd w 1 y.2 y.1.length (y.1.flatMap Af)/\y.1.length<=maxLen/\∀z∈y.1,Dn z) 1 AK (by omega) Tryz.underlying22 KJ (fun _ _ _=>Fl) g0
 obtain⟨s1,l1,e1,w1,m1,k1⟩:=CH MC.cells MC.wf 2 MC.cells_length (by omega) Tryz.underlying23 Mc (fun _ _ _=>LF) g1;obtain⟨s2,l2,e2,w2,m2,k2⟩:=CH BC (fun y=>CK w y.2 y.1/\y.1.fits/\y.1.wf) 4 Ah (by omega) Tryz.underlying24 Mn (fun _ _ _=>MV) g2
 obtain⟨s3,l3,e3,w3,m3,k3⟩:=CH MT.cells MT.wf 4 MT.cells_length (by omega) Tryz.underlying25 Mo (fun _ _ _=>MW) g3;simp only[List.cons.injEq,and_true]at e0 e1 e2 e3;subst e0 e1 e2 e3;have hm:∀n:Nat,n<=maxLen->n<=9223372036854775807:=fun n h=>by simp[maxLen]at h;exact h
 refine⟨⟨l0.map Prod.fst,l1,l2.map Prod.fst,l3⟩,⟨a,b,c,d⟩,rfl,⟨⟨l0,rfl,by simpa using w0,fun y hy=>(k0 y hy).1⟩,w1,⟨l2,rfl,by simpa using w2,fun y hy=>(k2 y hy).1⟩,w3⟩,⟨by simpa using hm _ m0,?_,hm _ m1,by simpa using hm _ m2,?_,hm _ m3⟩,⟨?_,k1,?_,k3⟩⟩
 ·intro r hr
  obtain⟨y,hy,rfl⟩:=List.mem_map.1 hr;exact hm _ (k0 y hy).2.1
 ·intro r hr
  obtain⟨y,hy,rfl⟩:=List.mem_map.1 hr;exact(k2 y hy).2.1
 ·intro r hr
  obtain⟨y,hy,rfl⟩:=List.mem_map.1 hr;exact(k0 y hy).2.2
 ·intro r hr
  obtain⟨y,hy,rfl⟩:=List.mem_map.1 hr;exact(k2 y hy).2.2
end
structure C6(w:World)(b:Nat)(x y z t:Value):Prop where
  c0:w.cell? ⟨b,0,none⟩=some x
  c1:w.cell? ⟨b,1,none⟩=some y
  c2:w.cell? ⟨b,2,none⟩=some z
  c3:w.cell? ⟨b,3,none⟩=some t
theorem C6.lt{w:World}{b:Nat}{x y z t:Value}(h:C6 w b x y z t):b<w.heap.size:=bL h.c0
theorem C6.keep{w w':World}{b:Nat}{x y z t:Value}(h:C6 w b x y z t)(hb:Below w.heap.size w w'):C6 w' b x y z t:=
  ⟨by rw[hb.cell h.lt];exact h.c0,by rw[hb.cell h.lt];exact h.c1,by rw[hb.cell h.lt];exact h.c2,by rw[hb.cell h.lt];exact h.c3⟩
theorem C6.new(w:World)(x y z t:Value)(ty:TypeId):C6 (w.alloc (.cells #[x,y,z,t] ty)) w.heap.size x y z t:=by
  have h:=World.ownsRow_lit (base:=w.heap.size) (e:=ty) (size:=4) w #[x,y,z,t] 1 (Nat.le_refl _) (by unfold maxLen;omega) (by simp);exact⟨h.cellAt 0 (by omega),h.cellAt 1 (by omega),h.cellAt 2 (by omega),h.cellAt 3 (by omega)⟩
theorem C6.alloc{w:World}{b:Nat}{x y z t:Value}(h:C6 w b x y z t)(o:Obj):C6 (w.alloc o) b x y z t:=h.keep ((Below.refl _ _).alloc (Nat.le_refl _) _)
theorem Aa(w:World)(o:Obj):Below w.heap.size w (w.alloc o):=(Below.refl _ _).alloc (Nat.le_refl _) _
theorem Ad(w:World):Below w.heap.size w w.drew:=⟨rfl,rfl,rfl,Nat.le_refl _,fun _ _=>rfl⟩
theorem Ac{B:Nat}{w u u':World}(h:Below B w u)(hB:B<=w.heap.size)(h':Below u.heap.size u u'):Below B w u':=h.trans (h'.mono (Nat.le_trans hB h.size))
theorem Au{w:World}{base:Nat}{e:TypeId}{s:Value}{k n:Nat}{xs:List Value}(h:w.ownsRow base e k s n xs):(s=.slice none 0 0/\n=0)\/∃g c,s=.slice (some ⟨g,0,none⟩) n c:=by
 rcases h.2 with h|⟨g,cap,cur,rfl,hb,_⟩
 ·exact .inl h
 ·exact .inr ⟨g,cap,rfl⟩
theorem An{w:World}{base:Nat}{e:TypeId}{s:Value}{k n:Nat}{xs:List Value}(h:w.ownsRow base e k s n xs):∃a c,s=.slice a n c:=by
 rcases Au h with⟨rfl,rfl⟩|⟨g,c,rfl⟩<;>exact⟨_,_,rfl⟩
def CZ(x y:Value):Prop:=x=y\/∃k a b,x=.int k a/\y=.int k b
theorem CZ.trans{x y z:Value}(h:CZ x y)(h':CZ y z):CZ x z:=by
 rcases h with rfl|⟨k,a,b,rfl,rfl⟩
 ·exact h'
 ·rcases h' with rfl|⟨k',a',b',e,rfl⟩
  ·exact .inr ⟨k,a,b,rfl,rfl⟩
  ·cases e
   exact .inr ⟨k,a,b',rfl,rfl⟩
theorem CZ.int{k:IntKind}{a:Int}{y:Value}(h:CZ (.int k a) y):∃b,y=.int k b:=by
 rcases h with rfl|⟨k',a',b',e,rfl⟩
 ·exact⟨_,rfl⟩
 ·cases e
  exact⟨_,rfl⟩
theorem CZ.slice{a:Option Addr}{n c:Nat}{y:Value}(h:CZ (.slice a n c) y):y=.slice a n c:=by
 rcases h with rfl|⟨k',a',b',e,rfl⟩
 ·rfl
 ·cases e
def EH(xs ys:Array Value):Prop:=xs.size=ys.size/\∀(i:Nat) x y,xs[i]?=some x->ys[i]?=some y->CZ x y
theorem EH.refl(xs:Array Value):EH xs xs:=⟨rfl,fun i x y h1 h2=>by rw[h1]at h2;exact .inl (Option.some.inj h2)⟩
theorem EH.at{xs ys:Array Value}(h:EH xs ys){i:Nat}{x:Value}(hx:xs[i]?=some x):∃y,ys[i]?=some y/\CZ x y:=by
 have hi:i<ys.size:=by rw[<-h.1];exact(Array.getElem?_eq_some_iff.1 hx).1
 exact⟨_,Array.getElem?_eq_getElem hi,h.2 i x _ hx (Array.getElem?_eq_getElem hi)⟩
theorem EH.trans{xs ys zs:Array Value}(h:EH xs ys)(h':EH ys zs):EH xs zs:=by
 refine⟨h.1.trans h'.1,fun i x z hx hz=> ?_⟩;obtain⟨y,hy,a1⟩:=h.at hx;exact a1.trans (h'.2 i y z hy hz)
structure Bb(w w':World):Prop where
 size:w.heap.size<=w'.heap.size
 block:∀(k:Nat) (cur:Array Value) (t:TypeId),w.heap[k]?=some (Obj.cells cur t (0,0))->∃cur',w'.heap[k]?=some (Obj.cells cur' t (0,0))/\EH cur cur'
theorem Bb.refl(w:World):Bb w w:=⟨Nat.le_refl _,fun k cur t h=>⟨cur,h,.refl _⟩⟩
theorem Bb.trans{w u v:World}(h:Bb w u)(h':Bb u v):Bb w v:=by
 refine⟨Nat.le_trans h.size h'.size,fun k cur t hk=> ?_⟩;obtain⟨c1,h1,a1⟩:=h.block k cur t hk;obtain⟨c2,h2,a2⟩:=h'.block k c1 t h1;exact⟨c2,h2,a1.trans a2⟩
theorem Bb.of_below{w w':World}(h:Below w.heap.size w w'):Bb w w':=
 ⟨h.size,fun k cur t hk=>⟨cur,by rw[h.block k (Array.getElem?_eq_some_iff.1 hk).1];exact hk,.refl _⟩⟩
structure AY(lo hi:Nat)(w w':World):Prop where
 os:w'.os=w.os
 tape:w'.tape=w.tape
 output:w'.output=w.output
 size:w'.heap.size=w.heap.size
 out:∀(k:Nat),k<lo\/hi<=k->w'.heap[k]?=w.heap[k]?
 shaped:Bb w w'
theorem AY.refl(lo hi:Nat)(w:World):AY lo hi w w:=⟨rfl,rfl,rfl,rfl,fun _ _=>rfl,.refl _⟩
theorem AY.trans{lo hi:Nat}{w u v:World}(h:AY lo hi w u)(h':AY lo hi u v):AY lo hi w v:=
 ⟨h'.os.trans h.os,h'.tape.trans h.tape,h'.output.trans h.output,h'.size.trans h.size,fun k hk=>(h'.out k hk).trans (h.out k hk),h.shaped.trans h'.shaped⟩
theorem AY.set{lo hi:Nat}{w:World}{g i:Nat}{cur:Array Value}{t:TypeId}{v x:Value}(hb:w.heap[g]?=some (Obj.cells cur t (0,0)))(hx:cur[i]?=some x)(ha:CZ x v)(hg:lo<=g)(hh:g<hi):AY lo hi w (w.setCell ⟨g,i,none⟩ v):=by
 refine⟨rfl,rfl,rfl,by simp,fun k hk=>heap_setCell_other w _ k v (by simp only[];omega),by simp,fun k c' t' hk=> ?_⟩;by_cases e:k=g
 ·subst e
  rw[hb]at hk;simp only[Option.some.injEq,Obj.cells.injEq,and_true]at hk;obtain⟨rfl,rfl⟩:=hk;refine⟨_,heap_setCell_same w k i cur t v hb,by simp,fun j a b h1 h2=> ?_⟩;by_cases ej:j=i
  ·subst ej
   rw[hx]at h1;obtain rfl:=Option.some.inj h1;have hlt:=(Array.getElem?_eq_some_iff.1 hx).1;rw[Array.getElem?_setIfInBounds_self_of_lt hlt]at h2;obtain rfl:=Option.some.inj h2;exact ha
  ·rw[Array.getElem?_setIfInBounds_ne (Ne.symm ej),h1]at h2
   exact .inl (Option.some.inj h2)
 ·exact⟨c',by rw[heap_setCell_other w _ k v e];exact hk,.refl _⟩
theorem AN{w wr:World}{base:Nat}{e:TypeId}{k n c g:Nat}{xs:List Value}(h:w.ownsRow base e k (.slice (some ⟨g,0,none⟩) n c) n xs)(hs:Bb w wr){i:Nat}{x:Value}(hx:xs[i]?=some x):
  ∃y,wr.cell? ⟨g,i,none⟩=some y/\CZ x y/\wr.frozen? ⟨g,i,none⟩=false/\∀lo hi v,lo<=base->w.heap.size<=hi->CZ x v->AY lo hi wr (wr.setCell ⟨g,i,none⟩ v):=by
 rcases h.2 with⟨h',_⟩|⟨g',cap,cur,e1,hb,hg,hnc,hcm,hcs,ht⟩
 ·cases h'
 ·cases e1
  obtain⟨cur',h1,ha⟩:=hs.block _ _ _ hg
  have hc:cur[i]?=some x:=by
   rw[<-ht]at hx;have:=(gI.1 hx).1;rw[List.getElem?_take_of_lt (by simp at this;omega)]at hx;simpa using hx
  obtain⟨y,hy,al⟩:=ha.at hc;refine⟨y,by rw[cell_of_row wr g i cur' e _ h1];exact hy,al,by simp[World.frozen?,h1],fun lo hi v h2 h3 hv=> ?_⟩;refine AY.set h1 hy ?_ (Nat.le_trans h2 hb) (Nat.lt_of_lt_of_le (Array.getElem?_eq_some_iff.1 hg).1 h3);rcases al with rfl|⟨k',a,b,rfl,rfl⟩
  ·exact hv
  ·obtain⟨z,rfl⟩:=hv.int
   exact .inr ⟨k',b,z,rfl,rfl⟩
structure Ds(lo hi:Nat)(w w':World):Prop where
 os:w'.os=w.os
 tape:w'.tape=w.tape
 output:w'.output=w.output
 size:w.heap.size<=w'.heap.size
 out:∀(k:Nat),k<w.heap.size->k<lo\/hi<=k->w'.heap[k]?=w.heap[k]?
 shaped:Bb w w'
theorem Ds.of{lo hi B:Nat}{w u w':World}(hb:Below B w u)(hB:w.heap.size<=B)(h:AY lo hi u w'):Ds lo hi w w':=
 ⟨h.os.trans hb.os,h.tape.trans hb.tape,h.output.trans hb.output,by rw[h.size];exact hb.size,fun k hk hh=>(h.out k hh).trans (hb.block k (Nat.lt_of_lt_of_le hk hB)),(Bb.of_below (hb.mono hB)).trans h.shaped⟩
theorem Ds.below{lo hi:Nat}{w w':World}(h:Ds lo hi w w')(hl:lo<=w.heap.size):Below lo w w':=⟨h.os,h.tape,h.output,h.size,fun k hk=>h.out k (Nat.lt_of_lt_of_le hk hl) (.inl hk)⟩
theorem Ds.own{lo hi:Nat}{w w':World}(h:Ds lo hi w w'){B:Nat}{e:TypeId}{s:Value}{k n:Nat}{xs:List Value}(ho:w.ownsRow B e k s n xs)(hB:hi<=B):w'.ownsRow B e k s n xs:=by
 refine⟨ho.1,?_⟩;rcases ho.2 with h'|⟨g,cap,cur,e1,hb1,hg,hr⟩
 ·exact .inl h'
 ·refine .inr ⟨g,cap,cur,e1,hb1,?_,hr⟩
  rw[h.out g (Array.getElem?_eq_some_iff.1 hg).1 (.inr (Nat.le_trans hB hb1))];exact hg
structure Na(k:Nat)(w u:World)(tp tr:TypeId)(p r o:List Value):Prop where
 par:u.ownsRow w.heap.size tp k (.slice (some ⟨w.heap.size,0,none⟩) 1 1) 1 p
 res:u.ownsRow w.heap.size tr k (.slice (some ⟨w.heap.size+1,0,none⟩) 1 1) 1 r
 loc:u.ownsRow w.heap.size tr k (.slice (some ⟨w.heap.size+1+1,0,none⟩) 1 1) 1 o
 bel:Below w.heap.size w u
 siz:w.heap.size+3<=u.heap.size
theorem Na.of(k:Nat)(w:World)(tp tr:TypeId)(p r o:Array Value)(hp:p.size=k)(hr:r.size=k)(ho:o.size=k):
  Na k w (((w.alloc (.cells p tp)).alloc (.cells r tr)).alloc (.cells o tr)) tp tr p.toList r.toList o.toList:=by
 have b1:Below w.heap.size w (w.alloc (.cells p tp)):=(Below.refl _ _).alloc lR _;have c2:Below (w.alloc (.cells p tp)).heap.size (w.alloc (.cells p tp)) ((w.alloc (.cells p tp)).alloc (.cells r tr)):=(Below.refl _ _).alloc lR _;have c3:Below ((w.alloc (.cells p tp)).alloc (.cells r tr)).heap.size ((w.alloc (.cells p tp)).alloc (.cells r tr)) (((w.alloc (.cells p tp)).alloc (.cells r tr)).alloc (.cells o tr)):=(Below.refl _ _).alloc lR _;have r1:=World.ownsRow_lit (base:=w.heap.size) (e:=tp) (size:=k) w p 1 lR (by unfold maxLen;omega) (by omega);have r2:=World.ownsRow_lit (base:=w.heap.size) (e:=tr) (size:=k) (w.alloc (.cells p tp)) r 1 (by simp) (by unfold maxLen;omega) (by omega);have r3:=World.ownsRow_lit (base:=w.heap.size) (e:=tr) (size:=k) ((w.alloc (.cells p tp)).alloc (.cells r tr)) o 1 (by simp<;>omega) (by unfold maxLen;omega) (by omega);refine⟨Ai (Ai r1 c2 lR) c3 lR,?_,?_,(b1.trans (c2.mono (by simp))).trans (c3.mono (by simp<;>omega)),by simp<;>omega⟩
 ·have:=Ai r2 c3 lR
  simpa using this
 ·simpa using r3
theorem Na.keep{k:Nat}{w u u':World}{tp tr:TypeId}{p r o:List Value}(h:Na k w u tp tr p r o)(hb:Below u.heap.size u u'):Na k w u' tp tr p r o:=
 ⟨Ai h.par hb lR,Ai h.res hb lR,Ai h.loc hb lR,h.bel.trans (hb.mono (by have:=h.siz;omega)),Nat.le_trans h.siz hb.size⟩
theorem Na.set{k:Nat}{w u:World}{tp tr:TypeId}{p r o:List Value}(h:Na k w u tp tr p r o)(j:Nat)(x:Value):Na k w (u.setCell ⟨w.heap.size+1+1,j,none⟩ x) tp tr p r (o.set j x):=
 ⟨ownsRow_setCell_other h.par (by simp[Value.ownBlock]<;>omega) x,ownsRow_setCell_other h.res (by simp[Value.ownBlock]) x,(h.loc.stored j x).1,h.bel.setCell (by simp<;>omega) x,by have:=h.siz;simpa using this⟩
theorem Na.set'{k:Nat}{w u:World}{tp tr:TypeId}{p r o:List Value}(h:Na k w u tp tr p r o)(j:Nat)(x:Value):Na k w (u.setCell ⟨w.heap.size+1,j,none⟩ x) tp tr p (r.set j x) o:=
 ⟨ownsRow_setCell_other h.par (by simp[Value.ownBlock]<;>omega) x,(h.res.stored j x).1,ownsRow_setCell_other h.loc (by simp[Value.ownBlock]) x,h.bel.setCell (by simp) x,by have:=h.siz;simpa using this⟩
theorem Kt{α:Type}(q:α->Bool)(ys:List α)(k:Nat)(x:α)(hx:ys[k]?=some x)(h:(ys.take k).all q=true):(ys.take (k+1)).all q=q x:=by
 obtain⟨hlt,rfl⟩:=gI.1 hx;rw[List.take_succ_eq_append_getElem hlt,List.all_append,h];simp
theorem Mp{α:Type}(q:α->Bool)(ys:List α)(x:α)(hx:x∈ys)(h:q x=false):ys.all q=false:=by
 rw[List.all_eq_false];exact⟨x,hx,by simp[h]⟩
theorem EX(s:Value)(ys:List Int)(w:World)(hn:ys.length<=1048576)(h:Rd w 1 s ys.length (ys.flatMap Af)):
  Calls Tryz.prog 117 #[s] w fun e w'=>e=.returned (.bool (ys.all C9))/\w'=w:=by
 have H1:=AM h;obtain⟨a1,c1,rfl⟩:=h.is_slice;clear h;generalize hLL:ys.length=n at hn H1;have HL:Hid (ys.length=n):=hLL;clear hLL;generalize hR:ys.all C9=R;have HR:Hid (ys.all C9=R):=hR;clear hR;go_enter Tryz.func117,Tryz.ntmps117;go_wp2
 go_loopw [3] (fun i wr=>∃k:Nat,k<=n/\i=.int .i64 k/\Hid ((ys.take k).all C9=true)/\wr=w) (fun i _=>n-(intOf i).toNat)
 case atStart=>exact⟨0,by omega,rfl,by simp[Hid],rfl⟩
 case round=>
  obtain⟨k,hk,rfl,HT,rfl⟩:=hrel;by_cases hlt:k<n
  ·obtain⟨x,hx⟩:∃x,ys[k]?=some x:=⟨_,gE (by rw[HL.out];exact hlt)⟩
   rcases H1.out.2 with⟨e0,_⟩|⟨g,o,c,e1,hc1⟩
   ·omega
   ·simp only[sJ,true_and]at e1
    obtain⟨rfl,rfl⟩:=e1;have i0:=Rd.elem Ap hc1 k x hx 0 _ rfl;rw[Nat.mul_one,Nat.add_zero]at i0;have HX:Hid (ys[k]?=some x):=hx;clear hc1 hx;go_wp2_with fail
    refine(Bp x wr).mono ?_;rintro e u ⟨rfl,rfl⟩;cases hq:C9 x with
    | false=>
     have hR:R=false:=by
      rw[<-HR.out];exact Mp _ _ _ (mG HX.out) hq
     subst hR;clear hq;go_wp2
     go_ret
     exact⟨rfl,rfl⟩
    | true=>
     have HN:Hid ((ys.take (k+1)).all C9=true):=by
      show _=_;rw[Kt _ _ _ _ HX.out HT.out];exact hq
     clear hq;go_wp2
     go_roundw
     case rel=>exact⟨k+1,by omega,by go_num,HN,by trivial⟩
     case measure=>simp[intOf];omega
  ·have hkn:k=n:=by omega
   subst hkn
   have hR:R=true:=by
    rw[<-HR.out,<-HT.out,<-HL.out,List.take_length]
   subst hR;go_wp2
   go_ret
   exact⟨rfl,rfl⟩
def Ao(e:Ending)(q:Prop):Prop:=∃b,e=.returned (.bool b)/\(b=true↔q)
theorem Ao.yes{q:Prop}(h:q):Ao (.returned (.bool true)) q:=⟨_,rfl,by simp[h]⟩
theorem Ao.no{q:Prop}(h:¬q):Ao (.returned (.bool false)) q:=⟨_,rfl,by simp[h]⟩
theorem Ao.of{q:Prop}{b:Bool}(h:b=true↔q):Ao (.returned (.bool b)) q:=⟨_,rfl,h⟩
def Aq(w:World)(b:Nat)(cur:Array Value)(t:TypeId):Prop:=w.heap[b]?=some (.cells cur t (0,0))
theorem Aq.new(w:World)(cur:Array Value)(t:TypeId):Aq (w.alloc (.cells cur t)) w.heap.size cur t:=Array.getElem?_push_size
theorem Aq.lt{w:World}{b:Nat}{cur:Array Value}{t:TypeId}(h:Aq w b cur t):b<w.heap.size:=(Array.getElem?_eq_some_iff.1 h).1
theorem Aq.keep{w w':World}{b:Nat}{cur:Array Value}{t:TypeId}(h:Aq w b cur t)(hb:Below w.heap.size w w'):Aq w' b cur t:=by
 unfold Aq at*;rw[hb.block b (Array.getElem?_eq_some_iff.1 h).1];exact h
theorem Aq.cell{w:World}{b:Nat}{cur:Array Value}{t:TypeId}(h:Aq w b cur t)(i:Nat):w.cell? ⟨b,i,none⟩=cur[i]?:=cell_of_row w b i cur t _ h
theorem Aq.frozen{w:World}{b:Nat}{cur:Array Value}{t:TypeId}(h:Aq w b cur t)(i:Nat):w.frozen? ⟨b,i,none⟩=false:=frozen_of_row w b i cur t h
theorem Aq.set{w:World}{b:Nat}{cur:Array Value}{t:TypeId}(h:Aq w b cur t)(i:Nat)(x:Value):Aq (w.setCell ⟨b,i,none⟩ x) b (cur.setIfInBounds i x) t:=heap_setCell_same w b i cur t x h
theorem Aq.other{w:World}{b:Nat}{cur:Array Value}{t:TypeId}(h:Aq w b cur t){a:Addr}(ha:b≠a.block)(x:Value):Aq (w.setCell a x) b cur t:=by
 unfold Aq at*;rw[heap_setCell_other w a b x ha];exact h
theorem Aq.grown{w w':World}{b:Nat}{cur:Array Value}{t e:TypeId}(h:Aq w b cur t){B k m:Nat}{v:Value}{bs:List Value}(hg:w.grownBy w' v.ownBlock)(ho:w.ownsRow B e k v m bs)(hne:t≠e):Aq w' b cur t:=by
 unfold Aq at*;rw[hg.block b (Array.getElem?_eq_some_iff.1 h).1 ?_]
 ·exact h
 ·intro hv
  rcases ho.2 with⟨rfl,_⟩|⟨g',cap',cur',rfl,_,hg',_⟩
  ·cases hv
  ·simp only[Value.ownBlock,Option.some.injEq]at hv
   subst hv;rw[h]at hg';simp only[Option.some.injEq,Obj.cells.injEq]at hg';exact hne hg'.2.1
end Go.Proofs.YtlejplpkomddeaaGreat
